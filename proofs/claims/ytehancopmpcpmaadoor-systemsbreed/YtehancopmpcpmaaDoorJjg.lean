/-
  What is bred, in the program and in the document.
-/
import Derived.Test.YtehancopmpcpmaaDoorSn
import Derived.Test.YtehancopmpcpmaaDoorUf
import Derived.Test.YtehancopmpcpmaaDoorJhg
import Derived.Test.YtehancopmpcpmaaDoorJsg
import Derived.Test.YtehancopmpcpmaaDoorGgg
import Derived.Deep.RegionHeld3
import Derived.Test.YtehancopmpcpmaaDoorGfg
import Derived.Test.YtehancopmpcpmaaDoorXpg
namespace Go.Proofs.YtehancopmpcpmaaDoor
open Go.RowKit Go.Maps
set_option linter.unusedVariables false
set_option maxRecDepth 100000

/-- what one with such a shape begets at a place -/
def chl (s : Int) (at_ : Cp) (odd : Bool) : List Cp := [at_, ⟨1, if odd then -(64 * (s + 1)) else 64 * (s + 1), 32 * (s + 1), 0⟩, ⟨2, 30 + 10 * s, 0, 0⟩, ⟨3, s, 100, 1 + s⟩]
theorem chl_rest : ∀ s : Fin 16, ∀ odd : Bool, (⟨1, if odd then -(64 * ((s.1 : Int) + 1)) else 64 * ((s.1 : Int) + 1), 32 * ((s.1 : Int) + 1), 0⟩ : Cp).chk = 0 ∧ (⟨2, 30 + 10 * (s.1 : Int), 0, 0⟩ : Cp).chk = 0 ∧ (⟨3, (s.1 : Int), 100, 1 + (s.1 : Int)⟩ : Cp).chk = 0 := by decide
theorem chl_ok (s : Nat) (hs : s < 16) (at_ : Cp) (hk : at_.k = 0) (hc : at_.chk = 0) (odd : Bool) : lst (-1) (chl (s : Int) at_ odd) = 0 := by
  obtain ⟨h1, h2, h3⟩ := chl_rest ⟨s, hs⟩ odd
  rw [lst_iff]
  unfold chl
  refine ⟨?_, ?_⟩
  · simp [List.pairwise_cons, hk]
  · intro q hq
    simp at hq
    rcases hq with rfl | rfl | rfl | rfl
    · exact hc
    · exact h1
    · exact h2
    · exact h3
theorem cs16 {w0 w : World} {l : List Thing} {B : Nat} {cs : Array Value} {t : TypeId} (h : Own w0 w (Cells B cs t :: l)) (C : List Cp) (hX : ∀ (j : Nat) q, C[j]? = some q → cs[j * 4]? = some (.int .u8 (q.k : Int)) ∧ cs[j * 4 + 1]? = some (.int .i32 q.a) ∧ cs[j * 4 + 2]? = some (.int .i32 q.b) ∧ cs[j * 4 + 3]? = some (.int .i32 q.c)) : Cs w (some ⟨B, 0, none⟩) C := by
  refine .inr ⟨B, 0, rfl, fun j q hq => ?_⟩
  obtain ⟨h0, h1, h2, h3⟩ := hX j q hq
  rw [Nat.zero_add]
  exact ⟨by rw [h.cell, h0], by rw [h.cell, h1], by rw [h.cell, h2], by rw [h.cell, h3]⟩
def c16 (k a b c dx s : Int) : Array Value := #[.int .u8 k, .int .i32 a, .int .i32 b, .int .i32 c, .int .u8 1, .int .i32 dx, .int .i32 (32 * (s + 1)), .int .i32 0, .int .u8 2, .int .i32 (30 + 10 * s), .int .i32 0, .int .i32 0, .int .u8 3, .int .i32 s, .int .i32 100, .int .i32 (1 + s)]
theorem c16_at {w0 w : World} {l : List Thing} {B : Nat} {t : TypeId} {k : Nat} {a b c s : Int} {odd : Bool} (h : Own w0 w (Cells B (c16 (k : Int) a b c (if odd then -(64 * (s + 1)) else 64 * (s + 1)) s) t :: l)) : Cs w (some ⟨B, 0, none⟩) (chl s ⟨k, a, b, c⟩ odd) := by
  refine cs16 h _ (fun j q hq => ?_)
  match j, hq with
  | 0, hq => cases hq; exact ⟨rfl, rfl, rfl, rfl⟩
  | 1, hq => cases hq; exact ⟨rfl, rfl, rfl, rfl⟩
  | 2, hq => cases hq; exact ⟨rfl, rfl, rfl, rfl⟩
  | 3, hq => cases hq; exact ⟨rfl, rfl, rfl, rfl⟩
  | n + 4, hq => simp [chl] at hq
set_option maxHeartbeats 1000000 in
theorem child_ok (w0 w : World) (l : List Thing) (h : Own w0 w l) (kc : Nat) (ce cl : Int) (s : Int) (h0 : 0 ≤ s) (h1 : s < 16) (k : Nat) (a b c : Int) (odd : Bool) :
    Calls Tryd.prog 69 #[.agg #[.int .u8 (kc : Int), .int .i32 ce, .int .i32 cl, .int .i32 s], .agg #[.int .u8 (k : Int), .int .i32 a, .int .i32 b, .int .i32 c], .bool odd] w fun e w' => ∃ g, e = .returned (.slice (some ⟨g, 0, none⟩) 4 4) ∧ Own w0 w' (Cells g (c16 (k : Int) a b c (if odd then -(64 * (s + 1)) else 64 * (s + 1)) s) 49 :: l) := by
  have H := ((h.allocC #[.int .u8 (kc : Int), .int .i32 ce, .int .i32 cl, .int .i32 s] 49).allocC #[.int .u8 (k : Int), .int .i32 a, .int .i32 b, .int .i32 c] 49).allocC (c16 (k : Int) a b c (if odd then -(64 * (s + 1)) else 64 * (s + 1)) s) 49
  simp only [World.size_alloc] at H
  have HH : Hid (Own w0 _ _) := H
  clear H h
  cases odd with
  | true =>
    simp only [if_true] at HH ⊢
    unfold c16 at HH
    go_enter Tryd.func69, Tryd.ntmps69
    go_wp2
    go_ret
    exact ⟨_, rfl, HH.out.two.tail.two.tail⟩
  | false =>
    simp only [Bool.false_eq_true, if_false] at HH ⊢
    unfold c16 at HH
    go_enter Tryd.func69, Tryd.ntmps69
    go_wp2
    go_ret
    exact ⟨_, rfl, HH.out.two.tail.two.tail⟩
set_option maxHeartbeats 1000000 in
theorem rchild_ok (w0 w : World) (l : List Thing) (h : Own w0 w l) (s : Int) (h0 : 0 ≤ s) (h1 : s < 16) (k : Nat) (a b c : Int) (odd : Bool) :
    Calls Tryd.prog 38 #[.int .i32 s, .agg #[.int .u8 (k : Int), .int .i32 a, .int .i32 b, .int .i32 c], .bool odd] w fun e w' => ∃ g, e = .returned (.slice (some ⟨g, 0, none⟩) 4 4) ∧ Own w0 w' (Cells g (c16 (k : Int) a b c (if odd then -(64 * (s + 1)) else 64 * (s + 1)) s) 49 :: l) := by
  have H := ((h).allocC #[.int .u8 (k : Int), .int .i32 a, .int .i32 b, .int .i32 c] 49).allocC (c16 (k : Int) a b c (if odd then -(64 * (s + 1)) else 64 * (s + 1)) s) 49
  simp only [World.size_alloc] at H
  have HH : Hid (Own w0 _ _) := H
  clear H h
  cases odd with
  | true =>
    simp only [if_true] at HH ⊢
    unfold c16 at HH
    go_enter Tryd.func38, Tryd.ntmps38
    go_wp2
    go_ret
    exact ⟨_, rfl, HH.out.two.tail⟩
  | false =>
    simp only [Bool.false_eq_true, if_false] at HH ⊢
    unfold c16 at HH
    go_enter Tryd.func38, Tryd.ntmps38
    go_wp2
    go_ret
    exact ⟨_, rfl, HH.out.two.tail⟩
end Go.Proofs.YtehancopmpcpmaaDoor

/-
  Breed: what comes leaves the others as they are.
-/
namespace Go.Proofs.YtehancopmpcpmaaDoor
open Go.RowKit Go.Maps
set_option linter.unusedVariables false
set_option maxRecDepth 100000

theorem Sto.spawn_bad {σ : Sto} {C : List Cp} (h : (σ.spawn C).2.1 ≠ 0) : (σ.spawn C).2.2 = σ := by
  unfold Sto.spawn at h ⊢
  split
  · rfl
  · rename_i h0
    rw [if_neg h0] at h
    split
    · rfl
    · rename_i h1
      rw [if_neg h1] at h
      exact (h rfl).elim
theorem Sto.spawn_live {σ : Sto} (h : σ.Ok) {C : List Cp} {x : Nat} (hx : σ.S.isLive x = true) : (σ.spawn C).2.2.S.isLive x = true ∧ (σ.spawn C).2.2.cps x = σ.cps x := by
  by_cases hb : (σ.spawn C).2.1 = 0
  · have hok := Sto.spawn_ok h C
    have e : ∃ m L, (σ.spawn C).2.2.T = upd σ.T m (σ.T m ++ L) ∧ (σ.spawn C).2.2.S = σ.S.take.2.2 ∧ σ.S.take.2.1 = 0 := by
      unfold Sto.spawn at hb ⊢
      split
      · rename_i h0
        rw [if_pos h0] at hb
        exact (h0 (by simpa using hb)).elim
      · rename_i h0
        rw [if_neg h0] at hb
        split
        · rename_i h1
          rw [if_pos h1] at hb
          exact (h1 hb).elim
        · rename_i h1
          exact ⟨msk C, _, rfl, rfl, by simpa using h1⟩
    obtain ⟨m, L, hT, hS, h1⟩ := e
    refine ⟨by rw [hS, (St.take_live h.s h1).2, hx]; simp, ?_⟩
    obtain ⟨h64, hm⟩ := Sto.mem_cps h hx
    refine Sto.cps_mem hok h64 ?_
    rw [hT]
    by_cases hk : σ.hom x = m
    · rw [hk, upd_same]
      rw [hk] at hm
      exact List.mem_append_left _ hm
    · rw [upd_other _ _ _ hk]
      exact hm
  · rw [Sto.spawn_bad hb]
    exact ⟨hx, rfl⟩
/-- one that may beget: who is born -/
def Sto.br (σ : Sto) (id : Nat) : Option Nat × Sto :=
  if (σ.gv id 5).b = 0 then
    if (σ.spawn (chl (σ.gv id 5).c (σ.gv id 0) (decide (id % 1024 % 2 = 1)))).2.1 = 0 then
      (some (σ.spawn (chl (σ.gv id 5).c (σ.gv id 0) (decide (id % 1024 % 2 = 1)))).1, ((σ.spawn (chl (σ.gv id 5).c (σ.gv id 0) (decide (id % 1024 % 2 = 1)))).2.2.set id ⟨5, (σ.gv id 5).a, (σ.gv id 5).a - 1, (σ.gv id 5).c⟩).2)
    else (none, σ)
  else (none, (σ.set id ⟨5, (σ.gv id 5).a, (σ.gv id 5).b - 1, (σ.gv id 5).c⟩).2)
theorem Sto.br_ok {σ : Sto} (h : σ.Ok) (id : Nat) : (σ.br id).2.Ok := by
  unfold Sto.br
  split
  · split
    · exact Sto.set_ok (Sto.spawn_ok h _) _ _
    · exact h
  · exact Sto.set_ok h _ _
theorem Sto.br_live {σ : Sto} (h : σ.Ok) {id x : Nat} (hx : σ.S.isLive x = true) : (σ.br id).2.S.isLive x = true ∧ ∀ k, hasK ((σ.br id).2.cps x) k = hasK (σ.cps x) k := by
  unfold Sto.br
  split
  · split
    · obtain ⟨h1, h2⟩ := Sto.spawn_live h (C := chl (σ.gv id 5).c (σ.gv id 0) (decide (id % 1024 % 2 = 1))) hx
      exact ⟨by rw [Sto.set_S]; exact h1, fun k => by rw [Sto.set_has (Sto.spawn_ok h _) _ _ h1 k, h2]⟩
    · exact ⟨hx, fun _ => rfl⟩
  · exact ⟨by rw [Sto.set_S]; exact hx, fun k => Sto.set_has h _ _ hx k⟩
def Sto.brs (σ : Sto) (L : List Nat) : Sto × List Nat := L.foldl (fun p id => ((p.1.br id).2, p.2 ++ (p.1.br id).1.toList)) (σ, [])
theorem Sto.brs_snoc (σ : Sto) (L : List Nat) (id : Nat) : σ.brs (L ++ [id]) = (((σ.brs L).1.br id).2, (σ.brs L).2 ++ ((σ.brs L).1.br id).1.toList) := by
  unfold Sto.brs
  rw [List.foldl_append]
  rfl
theorem Sto.brs_inv {σ : Sto} (h : σ.Ok) (L : List Nat) : (σ.brs L).1.Ok ∧ (∀ x, σ.S.isLive x = true → (σ.brs L).1.S.isLive x = true ∧ ∀ k, hasK ((σ.brs L).1.cps x) k = hasK (σ.cps x) k) ∧ (σ.brs L).2.length ≤ L.length := by
  refine snoc_ind (P := fun L => (σ.brs L).1.Ok ∧ (∀ x, σ.S.isLive x = true → (σ.brs L).1.S.isLive x = true ∧ ∀ k, hasK ((σ.brs L).1.cps x) k = hasK (σ.cps x) k) ∧ (σ.brs L).2.length ≤ L.length) ⟨h, fun x hx => ⟨hx, fun _ => rfl⟩, Nat.le_refl _⟩ ?_ L
  rintro L id ⟨i1, i3, i4⟩
  rw [Sto.brs_snoc]
  refine ⟨Sto.br_ok i1 id, fun x hx => ?_, ?_⟩
  · obtain ⟨m1, m2⟩ := i3 x hx
    obtain ⟨n1, n2⟩ := Sto.br_live i1 (id := id) m1
    exact ⟨n1, fun k => by rw [n2 k, m2 k]⟩
  · simp only [List.length_append, List.length_singleton]
    have : ((σ.brs L).1.br id).1.toList.length ≤ 1 := by cases ((σ.brs L).1.br id).1 <;> simp
    omega
theorem spawn_in {q : Cp} (hk : q.k = 5) (h : q.chk = 0) : (1 ≤ q.a ∧ q.a ≤ 255) ∧ (0 ≤ q.b ∧ q.b ≤ 254) ∧ 0 ≤ q.c ∧ q.c ≤ 15 := by
  unfold Cp.chk chk at h
  rw [if_neg (by omega)] at h
  split at h
  · cases h
  · split at h
    · cases h
    · rename_i ho
      have ho' : outside q.k (f3 q.a q.b q.c) = false := by simpa using ho
      unfold outside at ho'
      rw [List.any_eq_false] at ho'
      have h0 := ho' 0 (by rw [hk]; decide)
      have h1 := ho' 1 (by rw [hk]; decide)
      have h2 := ho' 2 (by rw [hk]; decide)
      simp only [Bool.or_eq_true, decide_eq_true_iff, not_or, Int.not_lt] at h0 h1 h2
      rw [hk] at h0 h1 h2
      exact ⟨h0, h1, h2⟩
end Go.Proofs.YtehancopmpcpmaaDoor

/-
  Breed as the document says it: the loop.
-/
namespace Go.Proofs.YtehancopmpcpmaaDoor
open Go.RowKit Go.Maps
set_option linter.unusedVariables false
set_option maxRecDepth 100000

theorem Own.neC {w0 w : World} {b b2 : Nat} {cur cur2 : Array Value} {t t2 : TypeId} {l : List Thing} (h : Own w0 w (Cells b cur t :: Cells b2 cur2 t2 :: l)) : b ≠ b2 := by
  obtain ⟨A, ⟨B, C, hB, ⟨D, E, hD, hE, hde, hc⟩, hbc, hA⟩, hF, hlo⟩ := h
  exact fun hk => hbc b ((hB.2 b).2 rfl) ((hc b).2 (.inl ((hD.2 b).2 hk)))
theorem Sto.br_oth {σ : Sto} (h : σ.Ok) {id x : Nat} (hx : σ.S.isLive x = true) (hne : x ≠ id) : (σ.br id).2.cps x = σ.cps x := by
  unfold Sto.br
  split
  · split
    · obtain ⟨h1, h2⟩ := Sto.spawn_live h (C := chl (σ.gv id 5).c (σ.gv id 0) (decide (id % 1024 % 2 = 1))) hx
      rw [Sto.set_oth (Sto.spawn_ok h _) _ _ h1 hne]
      exact h2
    · rfl
  · exact Sto.set_oth h _ _ hx hne
theorem Sto.brs_oth {σ : Sto} (h : σ.Ok) (L : List Nat) : ∀ x, σ.S.isLive x = true → x ∉ L → (σ.brs L).1.cps x = σ.cps x := by
  refine snoc_ind (P := fun L => ∀ x, σ.S.isLive x = true → x ∉ L → (σ.brs L).1.cps x = σ.cps x) (fun x _ _ => rfl) ?_ L
  intro L id ih x hx hxn
  obtain ⟨i1, i2, _⟩ := Sto.brs_inv h L
  rw [Sto.brs_snoc]
  simp only
  rw [Sto.br_oth i1 (i2 x hx).1 (fun hh => hxn (by simp [hh]))]
  exact ih x hx (fun hm => hxn (by simp [hm]))
set_option maxHeartbeats 8000000 in
theorem rbreed_ok (w0 w : World) (l : List Thing) (b : Nat) (σ : Sto) (K : Nat) (h : Own w0 w (RSto b σ K :: l)) (hσ : σ.Ok) (hK : K ≤ 900000) :
    Calls Tryd.prog 16 #[.pointer (some ⟨b, 0, none⟩)] w fun e w' => ∃ ao cap, e = .returned (.slice ao (σ.brs (σ.find 33 0)).2.length cap) ∧ Own w0 w' (Row 38 1 (.slice ao (σ.brs (σ.find 33 0)).2.length cap) (σ.brs (σ.find 33 0)).2.length (irow .u32 (σ.brs (σ.find 33 0)).2) :: RSto b (σ.brs (σ.find 33 0)).1 (K + 1024) :: l) := by
  obtain ⟨i0, hi, hz0, hz1, hz2⟩ := info_parts Tryd.infoID2
  have hLV : ∀ id ∈ σ.S.list, σ.S.isLive id = true ∧ id < 4294967296 := fun id hid => St.list_iv1 hσ.s hid
  obtain ⟨x, hx, h⟩ := RSto.opn h
  have HL : Hid (Calls _ _ _ _ _) := rlistS w0 w l b σ K x h hx hσ (by omega) (fun id hid => (hLV id hid).1)
  have hlen := list_len2 hσ.s
  have hnd := St.list_nodup hσ.s
  have HFE : Hid (σ.find 33 0 = σ.S.list.filter (fun id => hasK (σ.cps id) 5 && hasK (σ.cps id) 0)) := find_33 hσ
  rw [HFE.out]
  have HGG : Hid (∀ w' l', Own w0 w' (RSX b σ.S x :: l') → Own w0 w' (RStG (σ.S.list.map (x.at σ)) b σ K :: l')) := fun w' l' h' => RStG.all hx hσ (fun id hid => (hLV id hid).1) h'
  have HAT : Hid (∀ id ∈ σ.S.list, (x.at σ id).1 = id ∧ (x.at σ id).2.1 = σ.cps id) := by
    intro id hid
    obtain ⟨_, h1, h2, _⟩ := hx.at hσ (hLV id hid).1
    exact ⟨h1, h2⟩
  have HGV : Hid (∀ id ∈ σ.S.list, id < 4294967296 ∧ lst (-1) (σ.cps id) = 0 ∧ (∀ q ∈ σ.cps id, q.k < 6) ∧ ∀ q ∈ σ.cps id, σ.gv id q.k = q ∧ q.chk = 0) := by
    intro id hid
    obtain ⟨hl, h32⟩ := hLV id hid
    obtain ⟨c1, c2⟩ := cps61 hσ hl
    exact ⟨h32, c1, c2, fun q hq => gv_is hσ hl hq⟩
  obtain ⟨X, hX⟩ : ∃ X, σ.S.list = X := ⟨_, rfl⟩
  rw [hX] at HL hlen HGG HAT HGV hLV hnd ⊢
  obtain ⟨M, hM⟩ : ∃ M : Nat → Sto × List Nat, M = fun j => σ.brs ((X.take j).filter (fun id => hasK (σ.cps id) 5 && hasK (σ.cps id) 0)) := ⟨_, rfl⟩
  have HM0 : Hid (M 0 = (σ, [])) := by show _ = _; rw [hM]; simp [Sto.brs]
  have HMS : Hid (∀ (j id : Nat), X[j]? = some id → M (j + 1) = if hasK (σ.cps id) 5 && hasK (σ.cps id) 0 then (((M j).1.br id).2, (M j).2 ++ ((M j).1.br id).1.toList) else M j) := by
    intro j id hd
    rw [hM]
    simp only
    rw [List.take_add_one, hd]
    simp only [Option.toList_some, List.filter_append, List.filter_cons, List.filter_nil]
    cases hasK (σ.cps id) 5 && hasK (σ.cps id) 0 with
    | true => simp only [if_true]; exact Sto.brs_snoc σ _ id
    | false => simp
  have HME : Hid (M X.length = σ.brs (X.filter (fun id => hasK (σ.cps id) 5 && hasK (σ.cps id) 0))) := by show _ = _; rw [hM]; simp
  have HMI : Hid (∀ (j id : Nat), X[j]? = some id → (M j).1.Ok ∧ (M j).1.S.isLive id = true ∧ (M j).1.cps id = σ.cps id ∧ (M j).2.length ≤ j) := by
    intro j id hd
    have hnt := not_take hnd hd
    have hf : (((X.take j).filter (fun id => hasK (σ.cps id) 5 && hasK (σ.cps id) 0))).Nodup := (hnd.sublist (List.take_sublist _ _)).filter _
    have hlv : ∀ y ∈ (X.take j).filter (fun id => hasK (σ.cps id) 5 && hasK (σ.cps id) 0), σ.S.isLive y = true := fun y hy => (hLV y (List.mem_of_mem_take (List.mem_filter.1 hy).1)).1
    have hni : id ∉ (X.take j).filter (fun id => hasK (σ.cps id) 5 && hasK (σ.cps id) 0) := fun hm => hnt (List.mem_filter.1 hm).1
    obtain ⟨i1, i3, i4⟩ := Sto.brs_inv hσ ((X.take j).filter (fun id => hasK (σ.cps id) 5 && hasK (σ.cps id) 0))
    have hl := (hLV id (List.mem_of_getElem? hd)).1
    rw [hM]
    exact ⟨i1, (i3 id hl).1, Sto.brs_oth hσ _ id hl hni, Nat.le_trans i4 (Nat.le_trans (List.length_filter_le _ _) (by rw [List.length_take]; omega))⟩
  have HLG : Hid (∀ j, ∀ d ∈ (X.map (x.at σ)).drop j, (M j).1.S.isLive d.1 = true) := by
    intro j d hdm
    rw [← List.map_drop] at hdm
    obtain ⟨y, hy, rfl⟩ := List.mem_map.1 hdm
    have hym := List.mem_of_mem_drop hy
    rw [(HAT.out y hym).1, hM]
    exact ((Sto.brs_inv hσ ((X.take j).filter (fun id => hasK (σ.cps id) 5 && hasK (σ.cps id) 0))).2.1 y (hLV y hym).1).1
  have HNE : Hid (∀ (j id : Nat), X[j]? = some id → ∀ d ∈ (X.map (x.at σ)).drop (j + 1), d.1 ≠ id) := by
    intro j id hd d hdm he
    rw [← List.map_drop] at hdm
    obtain ⟨y, hy, rfl⟩ := List.mem_map.1 hdm
    rw [(HAT.out y (List.mem_of_mem_drop hy)).1] at he
    rw [he] at hy
    exact not_drop hnd hd hy
  rw [← HME.out]
  clear h hX hLV hσ hM HME hnd HFE hx
  generalize hxl : X.length = xl at *
  have HXL : Hid (X.length = xl) := hxl
  clear hxl
  go_enter Tryd.func16, Tryd.ntmps16
  go_wp2_with fail
  refine HL.out.mono ?_
  rintro e w1 ⟨la, lc, rfl, hO1⟩
  have H1 : Hid (Own w0 w1 (Row 38 1 (.slice none 0 0) 0 (irow .u32 []) :: Row 41 2 (.slice la xl lc) xl (cat rcells (X.map (x.at σ))) :: RStG (X.map (x.at σ)) b σ K :: l)) := (HGG.out _ _ hO1.two).two.nilRow 38 1
  clear hO1 HL HGG
  go_wp2
  go_loopw [3, 14] (fun v3 v9 wr => ∃ j : Nat, j ≤ xl ∧ v9 = .int .i64 j ∧ ∃ a1 c1, v3 = .slice a1 (M j).2.length c1 ∧ Own w0 wr (Row 38 1 (.slice a1 (M j).2.length c1) (M j).2.length (irow .u32 (M j).2) :: Row 41 2 (.slice la xl lc) xl (cat rcells (X.map (x.at σ))) :: RStG ((X.map (x.at σ)).drop j) b (M j).1 (K + j) :: l)) (fun _ v9 _ => xl - (intOf v9).toNat)
  case atStart => exact ⟨0, Nat.zero_le _, rfl, none, 0, by rw [HM0.out]; rfl, by rw [HM0.out]; exact H1.out⟩
  case round =>
    obtain ⟨j, hj, rfl, a1, c1, rfl, hO⟩ := hrel
    have HO : Hid (Own w0 wr _) := hO
    clear H1 HM0
    by_cases hlt : j < xl
    · have hlt' : (j : Int) < (xl : Int) := by omega
      obtain ⟨id, hid⟩ : ∃ id, X[j]? = some id := ⟨_, List.getElem?_eq_getElem (by rw [HXL.out]; exact hlt)⟩
      have hidm := List.mem_of_getElem? hid
      obtain ⟨g, cp, hv, _⟩ := row_shape hO.two.row (by omega)
      have hla := (Value.slice.inj hv).1
      subst hla
      obtain ⟨d, hde⟩ : ∃ d, x.at σ id = d := ⟨_, rfl⟩
      have hD : (X.map (x.at σ))[j]? = some d := by rw [List.getElem?_map, hid]; simp [hde]
      have hO' := hO.two
      rw [show xl = (X.map (x.at σ)).length by rw [List.length_map, HXL.out]] at hO'
      obtain ⟨e0, e1⟩ := ecell hO' j d hD
      obtain ⟨hd1, hd2⟩ := HAT.out id hidm
      rw [hde] at hd1 hd2
      obtain ⟨h32, hlC, hC6, hGV⟩ := HGV.out id hidm
      obtain ⟨i1, i2, i3, i4⟩ := HMI.out j id hid
      have HST : Hid (M (j + 1) = if hasK (σ.cps id) 5 && hasK (σ.cps id) 0 then (((M j).1.br id).2, (M j).2 ++ ((M j).1.br id).1.toList) else M j) := HMS.out j id hid
      have hgv0 : (M j).1.gv id 0 = σ.gv id 0 := by unfold Sto.gv; rw [i3]
      have hgv1 : (M j).1.gv id 5 = σ.gv id 5 := by unfold Sto.gv; rw [i3]
      have HNX : Hid (∀ d' ∈ (X.map (x.at σ)).drop (j + 1), d'.1 ≠ id) := HNE.out j id hid
      have HLJ := HLG.out j
      have hdrop := drop_at hD
      have HAG : Hid ((M j).1.br id = if (σ.gv id 5).b = 0 then if ((M j).1.spawn (chl (σ.gv id 5).c (σ.gv id 0) (decide (id % 1024 % 2 = 1)))).2.1 = 0 then (some ((M j).1.spawn (chl (σ.gv id 5).c (σ.gv id 0) (decide (id % 1024 % 2 = 1)))).1, (((M j).1.spawn (chl (σ.gv id 5).c (σ.gv id 0) (decide (id % 1024 % 2 = 1)))).2.2.set id ⟨5, (σ.gv id 5).a, (σ.gv id 5).a - 1, (σ.gv id 5).c⟩).2) else (none, (M j).1) else (none, ((M j).1.set id ⟨5, (σ.gv id 5).a, (σ.gv id 5).b - 1, (σ.gv id 5).c⟩).2)) := by
        show _ = _
        unfold Sto.br
        rw [hgv0, hgv1]
      have hO5 := (hO.allocC #[.int .u32 (d.1 : Int), .slice d.2.2.1 d.2.1.length d.2.2.2] 41).drew
      have HFN : Hid (∀ w' (k : Nat), k < 6 → Own w0 w' (Cells wr.heap.size #[.int .u32 (d.1 : Int), .slice d.2.2.1 d.2.1.length d.2.2.2] 41 :: Row 38 1 (.slice a1 (M j).2.length c1) (M j).2.length (irow .u32 (M j).2) :: Row 41 2 (.slice (some ⟨g, 0, none⟩) xl lc) xl (cat rcells (X.map (x.at σ))) :: RStG ((X.map (x.at σ)).drop j) b (M j).1 (K + j) :: l) → Calls Tryd.prog 29 #[.slice d.2.2.1 d.2.1.length d.2.2.2, .int .u8 (k : Int)] w' fun e w'' => ∃ r : Int, e = .returned (.int .i64 r) ∧ Fr Nobody w' w'' ∧ ((r = -1 ∧ hasK d.2.1 k = false) ∨ ∃ i : Nat, r = i ∧ ∃ q : Cp, d.2.1[i]? = some q ∧ q.k = k ∧ hasK d.2.1 k = true)) := fun w' k hk h' => find_any w' d.2.2.1 d.2.1.length d.2.2.2 d.2.1 rfl (RStG.cs h'.four hdrop) (by rw [hd2]; exact fun q hq => by have := hC6 q hq; omega) (by rw [hd2]; have := lst_len6 hlC; omega) k (by omega)
      have HF0 : Hid (Calls Tryd.prog 29 #[.slice d.2.2.1 d.2.1.length d.2.2.2, .int .u8 5] _ _) := HFN.out _ 5 (by decide) hO5
      have HF1 : Hid (∀ w', _ → Calls Tryd.prog 29 #[.slice d.2.2.1 d.2.1.length d.2.2.2, .int .u8 0] w' _) := fun w' h' => HFN.out w' 0 (by decide) h'
      clear HFN
      have H5 : Hid (Own w0 _ _) := hO5
      have HS1 : Hid (∀ w' l' (c : Cp), c.k = 5 → Own w0 w' (RStG ((X.map (x.at σ)).drop j) b (M j).1 (K + j) :: l') → Calls Tryd.prog 31 #[.pointer (some ⟨b, 0, none⟩), .int .u32 (id : Int), c.ag] w' fun e w'' => ∃ r, e = .returned (.int .i64 r) ∧ Own w0 w'' (RStG ((X.map (x.at σ)).drop (j + 1)) b ((M j).1.set id c).2 (K + (j + 1)) :: l')) := fun w' l' c hc h' => by
        refine (rsetG w0 w' l' b (M j).1 (K + j) (RStG.sub drop_sub h') i1 id HNX.out h32 c (by omega) (by omega)).mono ?_
        rintro e w'' ⟨rfl, h2⟩
        exact ⟨_, rfl, RStG.stoK (by omega) h2⟩
      have HS2 : Hid (∀ w' l' (C' : List Cp) (c : Cp), c.k = 5 → Own w0 w' (RStG ((X.map (x.at σ)).drop j) b ((M j).1.spawn C').2.2 (K + j + 1) :: l') → Calls Tryd.prog 31 #[.pointer (some ⟨b, 0, none⟩), .int .u32 (id : Int), c.ag] w' fun e w'' => ∃ r, e = .returned (.int .i64 r) ∧ Own w0 w'' (RStG ((X.map (x.at σ)).drop (j + 1)) b (((M j).1.spawn C').2.2.set id c).2 (K + (j + 1)) :: l')) := fun w' l' C' c hc h' => by
        refine (rsetG w0 w' l' b _ (K + j + 1) (RStG.sub drop_sub h') (Sto.spawn_ok i1 _) id HNX.out h32 c (by omega) (by omega)).mono ?_
        rintro e w'' ⟨rfl, h2⟩
        exact ⟨_, rfl, h2⟩
      have HSPW : Hid (∀ w' gb l' (k : Nat) (a b' c s : Int) (od : Bool), k < 256 → Own w0 w' (RStG ((X.map (x.at σ)).drop j) b (M j).1 (K + j) :: Cells gb (c16 (k : Int) a b' c (if od then -(64 * (s + 1)) else 64 * (s + 1)) s) 49 :: l') → Calls Tryd.prog 25 #[.pointer (some ⟨b, 0, none⟩), .slice (some ⟨gb, 0, none⟩) 4 4] w' fun e w'' => e = .returned (.tuple #[.int .u32 (((M j).1.spawn (chl s ⟨k, a, b', c⟩ od)).1 : Int), .int .i64 ((M j).1.spawn (chl s ⟨k, a, b', c⟩ od)).2.1]) ∧ Own w0 w'' (RStG ((X.map (x.at σ)).drop j) b ((M j).1.spawn (chl s ⟨k, a, b', c⟩ od)).2.2 (K + j + 1) :: Cells gb (c16 (k : Int) a b' c (if od then -(64 * (s + 1)) else 64 * (s + 1)) s) 49 :: l')) := fun w' gb l' k a b' c s od hk h' => rspawnG w0 w' _ b (M j).1 (K + j) h' i1 HLJ (some ⟨gb, 0, none⟩) 4 4 (chl s ⟨k, a, b', c⟩ od) rfl (fun w'' h'' => c16_at h'') (by intro q hq; simp [chl] at hq; rcases hq with rfl | rfl | rfl | rfl <;> simp [hk]) (by decide) (by omega)
      have HSB : Hid (∀ C', ((M j).1.spawn C').2.1 ≠ 0 → ((M j).1.spawn C').2.2 = (M j).1) := fun C' hne => Sto.spawn_bad hne
      have HSL : Hid (∀ w', Calls Tryd.prog 39 #[.int .u32 (id : Int)] w' fun e w'' => e = .returned (.int .i64 ((id % 1024 : Nat) : Int)) ∧ w'' = w') := fun w' => rslot_any id w' h32
      rw [HAG.out] at HST
      have x1 := hO5.cell 1
      simp at x1
      clear hO hO' hid hv hO5 hidm hde hD i1 i2 i3 HAG hgv0 hgv1 HNX hlC hC6 HLJ
      obtain ⟨dd1, C, da, dc⟩ := d
      simp only at e0 e1 hd1 hd2 H5 HF0 HF1 hdrop x1
      subst hd1
      generalize hcl : C.length = cl at *
      have HCL : Hid (C.length = cl) := hcl
      clear hcl
      go_wp2_with fail
      go_region_held3 (fun w' : World => w'.cell? ⟨wr.heap.size, 1, none⟩ = some (.slice da cl dc)) (go_keep)
        (first
         | (go_at_call 29; with_reducible refine HF0.out.mono ?_; rintro e w5 ⟨r5, rfl, hf5, hcase5⟩
            have hO6 := H5.out.quiet hf5
            have x1 := hO6.cell 1
            simp at x1
            have H6 : Hid (Own w0 w5 _) := hO6
            have HC5 : Hid (_ ∨ _) := hcase5
            clear hf5 hcase5 hO6)
         | (go_at_call 29; with_reducible refine (HF1.out _ H6.out).mono ?_; rintro e w6 ⟨r6, rfl, hf6, hcase6⟩
            have hO7 := H6.out.quiet hf6
            have x1 := hO7.cell 1
            simp at x1
            have H7 : Hid (Own w0 w6 _) := hO7
            have HC6 : Hid (_ ∨ _) := hcase6
            clear hf6 hcase6 hO7))
      all_goals
        rcases HC5.out with ⟨rfl, hno⟩ | ⟨i, rfl, q, hq, hqk, hy⟩
        · rw [hd2] at hno
          rw [hno] at HST
          simp only [Bool.false_and, Bool.false_eq_true, if_false] at HST
          have H8 : Hid (Own w0 w6 _) := (RStG.stoK (show K + j ≤ K + (j + 1) by omega) (RStG.sub drop_sub H7.out.four)).back4.tail
          clear H5 H6 H7 HF0 HF1 hno HS1 HS2 HSPW HSB HSL HO HC5 HC6
          go_wp2
          go_roundw
          case rel => exact ⟨j + 1, by omega, by go_num, a1, c1, by rw [HST.out], by rw [HST.out]; exact H8.out⟩
          case measure => simp [intOf]; omega
        · rcases HC6.out with ⟨rfl, hno⟩ | ⟨i2, rfl, q2, hq2, hqk2, hy2⟩
          · rw [hd2] at hno
            rw [hno] at HST
            simp only [Bool.and_false, Bool.false_eq_true, if_false] at HST
            have H8 : Hid (Own w0 w6 _) := (RStG.stoK (show K + j ≤ K + (j + 1) by omega) (RStG.sub drop_sub H7.out.four)).back4.tail
            clear H5 H6 H7 HF0 HF1 hno HS1 HS2 HSPW HSB HSL HO HC5 HC6 hq hqk hy
            go_wp2
            go_roundw
            case rel => exact ⟨j + 1, by omega, by go_num, a1, c1, by rw [HST.out], by rw [HST.out]; exact H8.out⟩
            case measure => simp [intOf]; omega
          · rw [hd2] at hy hy2
            rw [hy, hy2] at HST
            simp only [Bool.and_self, if_true] at HST
            have hqm := List.mem_of_getElem? hq
            have hqm2 := List.mem_of_getElem? hq2
            rw [hd2] at hqm hqm2
            obtain ⟨gq, gc⟩ := hGV q hqm
            obtain ⟨gq2, gc2⟩ := hGV q2 hqm2
            rw [hqk] at gq
            rw [hqk2] at gq2
            rw [gq, gq2] at HST
            have hil : i < cl := by rw [← HCL.out]; exact (List.getElem?_eq_some_iff.1 hq).1
            have hil2 : i2 < cl := by rw [← HCL.out]; exact (List.getElem?_eq_some_iff.1 hq2).1
            have HCE : Hid (∀ w' σ' K' l', Own w0 w' (RStG ((X.map (x.at σ)).drop j) b σ' K' :: l') → ∃ gg oc, da = some ⟨gg, oc, none⟩ ∧ (w'.cell? ⟨gg, oc + i * 4, none⟩ = some (.int .u8 (q.k : Int)) ∧ w'.cell? ⟨gg, oc + i * 4 + 1, none⟩ = some (.int .i32 q.a) ∧ w'.cell? ⟨gg, oc + i * 4 + 2, none⟩ = some (.int .i32 q.b) ∧ w'.cell? ⟨gg, oc + i * 4 + 3, none⟩ = some (.int .i32 q.c)) ∧ (w'.cell? ⟨gg, oc + i2 * 4, none⟩ = some (.int .u8 (q2.k : Int)) ∧ w'.cell? ⟨gg, oc + i2 * 4 + 1, none⟩ = some (.int .i32 q2.a) ∧ w'.cell? ⟨gg, oc + i2 * 4 + 2, none⟩ = some (.int .i32 q2.b) ∧ w'.cell? ⟨gg, oc + i2 * 4 + 3, none⟩ = some (.int .i32 q2.c))) := by
              intro w' σ' K' l' h'
              have hcs := RStG.cs h' hdrop
              obtain ⟨gg, oc, hda, _, hat⟩ := hcs.at i q hq
              obtain ⟨gg', oc', hda', _, hat2⟩ := hcs.at i2 q2 hq2
              simp only at hda hda'
              rw [hda] at hda'
              simp only [Option.some.injEq, Addr.mk.injEq] at hda'
              obtain ⟨rfl, rfl, _⟩ := hda'
              exact ⟨gg, oc, hda, hat, hat2⟩
            obtain ⟨gg, oc, hda, ⟨p0, p1, p2, p3⟩, v0, v1, v2, v3⟩ := HCE.out _ _ _ _ H7.out.four
            subst hda
            obtain ⟨⟨qa1, qa2⟩, ⟨qb1, qb2⟩, qc1, qc2⟩ := spawn_in hqk gc
            obtain ⟨qk, qa, qb, qc⟩ := q
            obtain ⟨qk2, pa, pb, pc⟩ := q2
            simp only at p0 p1 p2 p3 v0 v1 v2 v3 HST hqk hqk2 qa1 qa2 qb1 qb2 qc1 qc2 HCE
            subst hqk hqk2
            have HCF : Hid (∀ w' σ' K' l', Own w0 w' (RStG ((X.map (x.at σ)).drop j) b σ' K' :: l') → w'.cell? ⟨gg, oc + i2 * 4, none⟩ = some (.int .u8 0) ∧ w'.cell? ⟨gg, oc + i2 * 4 + 1, none⟩ = some (.int .i32 pa) ∧ w'.cell? ⟨gg, oc + i2 * 4 + 2, none⟩ = some (.int .i32 pb) ∧ w'.cell? ⟨gg, oc + i2 * 4 + 3, none⟩ = some (.int .i32 pc)) := by
              intro w' σ' K' l' h'
              obtain ⟨gg', oc', hda', _, h2⟩ := HCE.out _ _ _ _ h'
              simp only [Option.some.injEq, Addr.mk.injEq] at hda'
              obtain ⟨rfl, rfl, _⟩ := hda'
              exact h2
            have hil' : (i : Int) < (cl : Int) := by omega
            have hil2' : (i2 : Int) < (cl : Int) := by omega
            clear H5 H6 HF0 HF1 HO HC5 HC6 hq hq2 hqm hqm2 gq gq2 gc gc2 hy hy2 hGV HNE HMI HMS HAT HGV HCE HLG
            generalize hll : (M j).2.length = ll at *
            have HLL : Hid ((M j).2.length = ll) := hll
            clear hll
            by_cases hqb : qb = 0
            · subst hqb
              rw [if_pos rfl] at HST
              obtain ⟨sn, hsn⟩ : ∃ sn, dd1 % 1024 = sn := ⟨_, rfl⟩
              rw [hsn] at HST HSL
              obtain ⟨od, hod⟩ : ∃ od, decide (sn % 2 = 1) = od := ⟨_, rfl⟩
              rw [hod] at HST
              have hod2 : ((sn : Int).tmod 2 == 1) = od := by
                rw [← hod, Bool.eq_iff_iff, Int.tmod_eq_emod_of_nonneg (by omega)]
                simp only [beq_iff_eq, decide_eq_true_iff]
                omega
              have hsn2 : sn < 1024 := by omega
              have HCH : Hid (∀ w' l', Own w0 w' l' → Calls Tryd.prog 38 #[.int .i32 qc, .agg #[.int .u8 0, .int .i32 pa, .int .i32 pb, .int .i32 pc], .bool od] w' fun e w'' => ∃ g, e = .returned (.slice (some ⟨g, 0, none⟩) 4 4) ∧ Own w0 w'' (Cells g (c16 ((0 : Nat) : Int) pa pb pc (if od then -(64 * (qc + 1)) else 64 * (qc + 1)) qc) 49 :: l')) := fun w' l' h' => rchild_ok w0 w' l' h' qc qc1 (by omega) 0 pa pb pc od
              have HSP : Hid (∀ w' gb l', _ → Calls Tryd.prog 25 #[.pointer (some ⟨b, 0, none⟩), .slice (some ⟨gb, 0, none⟩) 4 4] w' _) := fun w' gb l' h' => HSPW.out w' gb l' 0 pa pb pc qc od (by decide) h'
              have HSE : Hid (∀ w' l', _ → Calls Tryd.prog 31 #[.pointer (some ⟨b, 0, none⟩), .int .u32 (dd1 : Int), .agg #[.int .u8 5, .int .i32 qa, .int .i32 (qa - 1), .int .i32 qc]] w' _) := fun w' l' h' => HS2.out w' l' (chl qc ⟨0, pa, pb, pc⟩ od) ⟨5, qa, qa - 1, qc⟩ rfl h'
              have HSBD := HSB.out (chl qc ⟨0, pa, pb, pc⟩ od)
              clear HS1 HS2 HSPW HSB hsn hod
              generalize (M j).1.spawn (chl qc ⟨0, pa, pb, pc⟩ od) = sp at *
              obtain ⟨sp1, sp2, sp3⟩ := sp
              simp only at HSP HSE HSBD HST
              have HSBX : Hid (sp2 ≠ 0 → sp3 = (M j).1) := HSBD
              clear HSBD
              have hB := (H7.out.allocC #[.int .u8 5, .int .i32 qa, .int .i32 0, .int .i32 qc] 49).drew
              have z3 := hB.cell 3
              have y0 := hB.two.cell 0
              have y1 := hB.two.cell 1
              obtain ⟨v0, v1, v2, v3⟩ := HCF.out _ _ _ _ hB.five
              simp at z3 y0 y1 v0 v1 v2 v3
              have HB : Hid (Own w0 _ _) := hB
              clear hB
              go_wp2_with fail
              go_region_held3 (fun w' : World => w'.cell? ⟨w6.heap.size, 3, none⟩ = some (.int .i32 qc) ∧ w'.cell? ⟨wr.heap.size, 0, none⟩ = some (.int .u32 (dd1 : Int)) ∧ w'.cell? ⟨wr.heap.size, 1, none⟩ = some (.slice (some ⟨gg, oc, none⟩) cl dc) ∧ w'.cell? ⟨gg, oc + i2 * 4, none⟩ = some (.int .u8 0) ∧ w'.cell? ⟨gg, oc + i2 * 4 + 1, none⟩ = some (.int .i32 pa) ∧ w'.cell? ⟨gg, oc + i2 * 4 + 2, none⟩ = some (.int .i32 pb) ∧ w'.cell? ⟨gg, oc + i2 * 4 + 3, none⟩ = some (.int .i32 pc)) (go_keep)
                (first
                 | (go_at_call 39; refine (HSL.out _).mono ?_; rintro e w2 ⟨rfl, rfl⟩)
                 | (go_at_call 38; refine (HCH.out _ _ HB.out).mono ?_; rintro e w3 ⟨gb, rfl, hO3⟩
                    have z3 := hO3.two.cell 3
                    have y0 := hO3.three.cell 0
                    have y1 := hO3.three.cell 1
                    obtain ⟨v0, v1, v2, v3⟩ := HCF.out _ _ _ _ hO3.six
                    simp at z3 y0 y1
                    have H3 : Hid (Own w0 w3 _) := hO3.six
                    clear hO3)
                 | (go_at_call 25; refine (HSP.out _ _ _ H3.out).mono ?_; rintro e w4 ⟨rfl, hO4⟩
                    have z3 := hO4.three.cell 3
                    have y0 := hO4.four.cell 0
                    have y1 := hO4.four.cell 1
                    obtain ⟨v0, v1, v2, v3⟩ := HCF.out _ _ _ _ hO4
                    simp at z3 y0 y1
                    have H4 : Hid (Own w0 w4 _) := hO4
                    clear hO4))
              all_goals
                by_cases hs : sp2 = 0
                · subst hs
                  rw [if_pos rfl] at HST
                  simp only [Option.toList_some] at HST
                  have hO4 := H4.out.three
                  have z0 := hO4.cell 0
                  have z1 := hO4.cell 1
                  have z2 := hO4.cell 2
                  have z3 := hO4.cell 3
                  simp at z0 z1 z2 z3
                  have u0 := hO4.froz 0
                  have u1 := hO4.froz 1
                  have u2 := hO4.froz 2
                  have u3 := hO4.froz 3
                  have hne := hO4.four.neC
                  have hne2 := hne.symm
                  have hO5 := hO4.setC 2 (.int .i32 (qa - 1))
                  have HS : Hid (Calls _ _ _ _ _) := HSE.out _ _ hO5.two
                  clear hO4 hO5 H3 H4 HB H7 HCH HSP HSE HSBX HSL HCF
                  go_wp2_with fail
                  refine HS.out.mono ?_
                  rintro e w7 ⟨r7, rfl, hO8⟩
                  have H9 : Hid (Own w0 w7 _) := hO8.two.tail.two.tail.two.tail.two
                  clear hO8 HS
                  go_wp2_with (at_builtin; refine append1_own rfl _ _ 29 rfl 38 i0 (.int .u32 0) 1 4 Tryd.underlying29 hi hz0 hz1 hz2 rfl (by decide) _ _ _ rfl H9.out _ _ (by simp) rfl rfl (one_int _ _) (by unfold maxLen; omega) (by omega) ?_)
                  intro g6 c6 w8 hO10 hsz6
                  have HFI : Hid (Own w0 w8 (Row 38 1 (.slice (some ⟨g6, 0, none⟩) (ll + 1) c6) (ll + 1) (irow .u32 (M (j + 1)).2) :: Row 41 2 (.slice (some ⟨g, 0, none⟩) xl lc) xl (cat rcells (X.map (x.at σ))) :: RStG ((X.map (x.at σ)).drop (j + 1)) b (M (j + 1)).1 (K + (j + 1)) :: l)) := by
                    show Own _ _ _
                    rw [HST.out]
                    have h9 := hO10.in23
                    simpa [irow] using h9
                  have HRL2 : Hid ((M (j + 1)).2.length = ll + 1) := by show _ = _; rw [HST.out, List.length_append, HLL.out]; rfl
                  clear hO10 hsz6 H9
                  go_wp2
                  go_roundw
                  case rel => exact ⟨j + 1, by omega, by go_num, _, _, by rw [HRL2.out], by rw [HRL2.out]; exact HFI.out⟩
                  case measure => simp [intOf]; omega
                · rw [if_neg hs] at HST
                  have hne : (sp2 == 0) = false := by simpa using hs
                  have hsb : sp3 = (M j).1 := HSBX.out hs
                  simp only [Option.toList_none, List.append_nil] at HST
                  have HFI : Hid (Own w0 w4 (Row 38 1 (.slice a1 ll c1) ll (irow .u32 (M j).2) :: Row 41 2 (.slice (some ⟨g, 0, none⟩) xl lc) xl (cat rcells (X.map (x.at σ))) :: RStG ((X.map (x.at σ)).drop (j + 1)) b (M j).1 (K + (j + 1)) :: l)) := by
                    have h9 := RStG.sub drop_sub H4.out.two.tail.two.tail.two.tail
                    rw [hsb] at h9
                    exact h9.back3
                  clear H3 H4 HB H7 HCH HSP HSE HSBX HSL HCF hsb
                  go_wp2
                  go_roundw
                  case rel => exact ⟨j + 1, by omega, by go_num, a1, c1, by rw [HST.out, HLL.out], by rw [HST.out, HLL.out]; exact HFI.out⟩
                  case measure => simp [intOf]; omega
            · rw [if_neg hqb] at HST
              simp only [Option.toList_none, List.append_nil] at HST
              have hgt : 0 < qb := by omega
              have hO8 := H7.out.allocC #[.int .u8 5, .int .i32 qa, .int .i32 (qb - 1), .int .i32 qc] 49
              have y0 := hO8.two.cell 0
              simp at y0
              have HS : Hid (Calls Tryd.prog 31 #[.pointer (some ⟨b, 0, none⟩), .int .u32 (dd1 : Int), .agg #[.int .u8 5, .int .i32 qa, .int .i32 (qb - 1), .int .i32 qc]] _ _) := HS1.out _ _ ⟨5, qa, qb - 1, qc⟩ rfl hO8.five
              clear hO8 H7 HS1 HS2 HSPW HSB HSL HCF
              go_wp2_with fail
              refine HS.out.mono ?_
              rintro e w7 ⟨r7, rfl, hO9⟩
              have HFI : Hid (Own w0 w7 _) := hO9.two.tail.two.tail.back3
              clear hO9 HS
              go_wp2
              go_roundw
              case rel => exact ⟨j + 1, by omega, by go_num, a1, c1, by rw [HST.out, HLL.out], by rw [HST.out, HLL.out]; exact HFI.out⟩
              case measure => simp [intOf]; omega
    · have hlt' : ¬ (j : Int) < (xl : Int) := by omega
      have hjn : j = xl := by omega
      subst hjn
      clear hO
      go_wp2
      go_ret
      exact ⟨a1, c1, rfl, Own.two (Own.rstoK (by omega) (RStG.less HO.out.two.tail.two))⟩
end Go.Proofs.YtehancopmpcpmaaDoor

/-
  Move: the loop.
-/
namespace Go.Proofs.YtehancopmpcpmaaDoor
open Go.RowKit Go.Maps
set_option linter.unusedVariables false
set_option maxRecDepth 100000

set_option maxHeartbeats 4000000 in
theorem move_ok (w0 w : World) (l : List Thing) (b : Nat) (σ : Sto) (K : Nat) (ht : Tab w0) (h : Own w0 w (Store b σ K :: l)) (hσ : σ.Ok) (hK : K < 1000000) :
    Calls Tryd.prog 10 #[.pointer (some ⟨b, 0, none⟩)] w fun e w' => ∃ ao cap, e = .returned (.slice ao (σ.mvs (σ.find 3 0)).2.length cap) ∧ Own w0 w' (Row 38 1 (.slice ao (σ.mvs (σ.find 3 0)).2.length cap) (σ.mvs (σ.find 3 0)).2.length (irow .u32 (σ.mvs (σ.find 3 0)).2) :: Store b (σ.mvs (σ.find 3 0)).1 K :: l) := by
  obtain ⟨i0, hi, hz0, hz1, hz2⟩ := info_parts Tryd.infoID2
  have hLV : ∀ id ∈ σ.S.list, σ.S.isLive id = true ∧ id < 4294967296 := fun id hid => St.list_iv1 hσ.s hid
  have HW : Hid (Calls _ _ _ _ _) := with_g w0 w l (some ⟨b, 0, none⟩) (Store b σ K) _ h 3 0 (iter_store w0 b σ K hσ (by omega) hLV 3 0 (by decide) (by decide) ht) (Sto.find_len hσ.s 3 0)
  have hlen := Sto.find_len hσ.s 3 0
  have HIN : Hid (∀ id ∈ σ.find 3 0, σ.S.isLive id = true ∧ id < 4294967296 ∧ hasK (σ.cps id) 0 = true ∧ hasK (σ.cps id) 1 = true) := by
    intro id hid
    obtain ⟨h1, h2, h3⟩ := mem_find hσ hid
    exact ⟨h1, h2, h3 0 (by decide), h3 1 (by decide)⟩
  have HT : Hid (Tab w0) := ht
  have HSI : Hid (∀ j, (σ.mvs ((σ.find 3 0).take j)).1.Ok ∧ (σ.mvs ((σ.find 3 0).take j)).1.S = σ.S ∧ (∀ x, σ.S.isLive x = true → ∀ k, hasK ((σ.mvs ((σ.find 3 0).take j)).1.cps x) k = hasK (σ.cps x) k) ∧ (σ.mvs ((σ.find 3 0).take j)).2.length ≤ j) := by
    intro j
    obtain ⟨i1, i2, i3, i4⟩ := Sto.mvs_inv hσ ((σ.find 3 0).take j)
    exact ⟨i1, i2, i3, Nat.le_trans i4 (by rw [List.length_take]; omega)⟩
  obtain ⟨X, hX⟩ : ∃ X, σ.find 3 0 = X := ⟨_, rfl⟩
  rw [hX] at HW hlen HIN HSI ⊢
  obtain ⟨M, hM⟩ : ∃ M : Nat → Sto × List Nat, M = fun j => σ.mvs (X.take j) := ⟨_, rfl⟩
  have HM0 : Hid (M 0 = (σ, [])) := by show _ = _; rw [hM]; simp [Sto.mvs]
  have HMS : Hid (∀ (j id : Nat), X[j]? = some id → M (j + 1) = (((M j).1.mv id).2, if ((M j).1.mv id).1 then (M j).2 ++ [id] else (M j).2)) := by
    intro j id hd
    rw [hM]
    simp only
    rw [List.take_add_one, hd]
    exact Sto.mvs_snoc σ (X.take j) id
  have HME : Hid (M X.length = σ.mvs X) := by show _ = _; rw [hM]; simp
  have HMI : Hid (∀ j, (M j).1.Ok ∧ (M j).1.S = σ.S ∧ (∀ x, σ.S.isLive x = true → ∀ k, hasK ((M j).1.cps x) k = hasK (σ.cps x) k) ∧ (M j).2.length ≤ j) := by rw [hM]; exact HSI.out
  rw [← HME.out]
  clear h hX hLV hσ ht HSI hM HME
  generalize hxl : X.length = xl at *
  have HXL : Hid (X.length = xl) := hxl
  clear hxl
  go_enter Tryd.func10, Tryd.ntmps10
  go_wp2_with fail
  refine HW.out.mono ?_
  rintro e w1 ⟨la, lc, rfl, hO1⟩
  have H1 : Hid (Own w0 w1 _) := hO1.nilRow 38 1
  clear hO1 HW
  go_wp2
  go_loopw [3, 9] (fun v3 v9 wr => ∃ j : Nat, j ≤ xl ∧ v9 = .int .i64 j ∧ ∃ a1 c1, v3 = .slice a1 (M j).2.length c1 ∧ Own w0 wr (Row 38 1 (.slice a1 (M j).2.length c1) (M j).2.length (irow .u32 (M j).2) :: Row 38 1 (.slice la xl lc) xl (irow .u32 X) :: Store b (M j).1 K :: l)) (fun _ v9 _ => xl - (intOf v9).toNat)
  case atStart => exact ⟨0, Nat.zero_le _, rfl, none, 0, by rw [HM0.out]; rfl, by rw [HM0.out]; exact H1.out⟩
  case round =>
    obtain ⟨j, hj, rfl, a1, c1, rfl, hO⟩ := hrel
    have HO : Hid (Own w0 wr _) := hO
    clear H1 HM0
    by_cases hlt : j < xl
    · have hlt' : (j : Int) < (xl : Int) := by omega
      obtain ⟨id, hid⟩ : ∃ id, X[j]? = some id := ⟨_, List.getElem?_eq_getElem (by rw [HXL.out]; exact hlt)⟩
      obtain ⟨g, cp, hv, _⟩ := row_shape hO.two.row (by omega)
      have hla := (Value.slice.inj hv).1
      subst hla
      have e0 : wr.cell? ⟨g, j, none⟩ = some (.int .u32 (id : Int)) := by
        rw [hO.two.row.cellAt _ (by omega), getElem?_irow, hid]; rfl
      obtain ⟨hl, h32, hk0, hk1⟩ := HIN.out id (List.mem_of_getElem? hid)
      obtain ⟨i1, i2, i3, i4⟩ := HMI.out j
      have HST : Hid (M (j + 1) = (((M j).1.mv id).2, if ((M j).1.mv id).1 then (M j).2 ++ [id] else (M j).2)) := HMS.out j id hid
      have HMV : Hid (Calls _ _ _ _ _) := move1_ok w0 wr _ b (M j).1 K HT.out hO.three i1 hK id h32 (by rw [i2]; exact hl) (by rw [i3 id hl]; exact hk0) (by rw [i3 id hl]; exact hk1)
      clear hO hid hv hl hk0 hk1 i1 i2 i3
      generalize (M j).1 = sj at *
      generalize (M j).2 = Lj at *
      generalize hmv : sj.mv id = mv at *
      obtain ⟨mb, ms⟩ := mv
      simp only at HST HMV
      generalize hll : Lj.length = ll at *
      have HLL : Hid (Lj.length = ll) := hll
      clear hll hmv
      go_wp2_with fail
      refine HMV.out.mono ?_
      rintro e w2 ⟨rfl, hO2⟩
      have H2 : Hid (Own w0 w2 _) := hO2.back3
      clear hO2 HMV HO
      cases mb with
      | false =>
        simp only [Bool.false_eq_true, if_false] at HST
        go_wp2
        go_roundw
        case rel => exact ⟨j + 1, by omega, by go_num, a1, c1, by rw [HST.out, HLL.out], by rw [HST.out, HLL.out]; exact H2.out⟩
        case measure => simp [intOf]; omega
      | true =>
        simp only [if_true] at HST
        go_wp2_with (at_builtin; refine append1_own rfl _ _ 29 rfl 38 i0 (.int .u32 0) 1 4 Tryd.underlying29 hi hz0 hz1 hz2 rfl (by decide) _ _ _ rfl H2.out _ _ (by simp) rfl rfl (one_int _ _) (by unfold maxLen; omega) (by omega) ?_)
        intro g6 c6 w6 hO6 hsz6
        have H7 : Hid (Own w0 w6 (Row 38 1 (.slice (some ⟨g6, 0, none⟩) (ll + 1) c6) (ll + 1) (irow .u32 (M (j + 1)).2) :: Row 38 1 (.slice (some ⟨g, 0, none⟩) xl lc) xl (irow .u32 X) :: Store b (M (j + 1)).1 K :: l)) := by
          show Own _ _ _
          rw [HST.out]
          simpa [irow] using hO6
        have HRL2 : Hid ((M (j + 1)).2.length = ll + 1) := by show _ = _; rw [HST.out, List.length_append, HLL.out]; rfl
        clear hO6 hsz6 H2
        go_wp2
        go_roundw
        case rel => exact ⟨j + 1, by omega, by go_num, _, _, by rw [HRL2.out], by rw [HRL2.out]; exact H7.out⟩
        case measure => simp [intOf]; omega
    · have hlt' : ¬ (j : Int) < (xl : Int) := by omega
      have hjn : j = xl := by omega
      subst hjn
      clear hO
      go_wp2
      go_ret
      exact ⟨a1, c1, rfl, HO.out.two.tail⟩
end Go.Proofs.YtehancopmpcpmaaDoor

/-
  Breed: one that begets, and the loop.
-/
namespace Go.Proofs.YtehancopmpcpmaaDoor
open Go.RowKit Go.Maps
set_option linter.unusedVariables false
set_option maxRecDepth 100000

set_option maxHeartbeats 4000000 in
theorem beget_ok (w0 w : World) (l : List Thing) (b : Nat) (σ : Sto) (K : Nat) (ht : Tab w0) (h : Own w0 w (Store b σ K :: l)) (hσ : σ.Ok) (hK : K < 1000000) (id : Nat) (hid : id < 4294967296) (hl : σ.S.isLive id = true) (h0 : hasK (σ.cps id) 0 = true) (kk : Nat) (qa qb qc : Int) (hc0 : 0 ≤ qc) (hc1 : qc < 16) :
    Calls Tryd.prog 37 #[.pointer (some ⟨b, 0, none⟩), .int .u32 (id : Int), .agg #[.int .u8 (kk : Int), .int .i32 qa, .int .i32 qb, .int .i32 qc]] w fun e w' => e = .returned (.tuple #[.int .u32 ((σ.spawn (chl qc (σ.gv id 0) (decide (id % 1024 % 2 = 1)))).1 : Int), .int .i64 (σ.spawn (chl qc (σ.gv id 0) (decide (id % 1024 % 2 = 1)))).2.1]) ∧ Own w0 w' (Store b (σ.spawn (chl qc (σ.gv id 0) (decide (id % 1024 % 2 = 1)))).2.2 (K + 1) :: l) := by
  have h1 := h.allocC #[.int .u8 (kk : Int), .int .i32 qa, .int .i32 qb, .int .i32 qc] 49
  have HG : Hid (Calls _ _ _ _ _) := sgetC w0 _ _ b σ K h1.two hσ id hid hl 0 (by decide)
  rw [h0] at HG
  obtain ⟨gk, gc⟩ := gv_of hσ hl h0
  have HSL : Hid (∀ w', Calls Tryd.prog 70 #[.int .u32 (id : Int)] w' fun e w'' => e = .returned (.int .i64 ((id % 1024 : Nat) : Int)) ∧ w'' = w') := fun w' => slot_any id w' hid
  generalize hsn : id % 1024 = sn at *
  have hsn2 : sn < 1024 := by omega
  generalize hP : σ.gv id 0 = P at *
  obtain ⟨pk, pa, pb, pc⟩ := P
  simp only at gk
  subst gk
  obtain ⟨od, hod⟩ : ∃ od, decide (sn % 2 = 1) = od := ⟨_, rfl⟩
  rw [hod]
  have hod2 : ((sn : Int).tmod 2 == 1) = od := by
    rw [← hod, Bool.eq_iff_iff, Int.tmod_eq_emod_of_nonneg (by omega)]
    simp only [beq_iff_eq, decide_eq_true_iff]
    omega
  have HCH : Hid (∀ w' l' o', o' = od → Own w0 w' l' → Calls Tryd.prog 69 #[.agg #[.int .u8 (kk : Int), .int .i32 qa, .int .i32 qb, .int .i32 qc], .agg #[.int .u8 0, .int .i32 pa, .int .i32 pb, .int .i32 pc], .bool o'] w' fun e w'' => ∃ g, e = .returned (.slice (some ⟨g, 0, none⟩) 4 4) ∧ Own w0 w'' (Cells g (c16 ((0 : Nat) : Int) pa pb pc (if od then -(64 * (qc + 1)) else 64 * (qc + 1)) qc) 49 :: l')) := fun w' l' o' ho h' => by subst ho; exact child_ok w0 w' l' h' kk qa qb qc hc0 hc1 0 pa pb pc o'
  have HSP : Hid (∀ w' g l', Own w0 w' (Store b σ K :: Cells g (c16 ((0 : Nat) : Int) pa pb pc (if od then -(64 * (qc + 1)) else 64 * (qc + 1)) qc) 49 :: l') → Calls Tryd.prog 23 #[.pointer (some ⟨b, 0, none⟩), .slice (some ⟨g, 0, none⟩) 4 4] w' fun e w'' => e = .returned (.tuple #[.int .u32 ((σ.spawn (chl qc ⟨0, pa, pb, pc⟩ od)).1 : Int), .int .i64 (σ.spawn (chl qc ⟨0, pa, pb, pc⟩ od)).2.1]) ∧ Own w0 w'' (Store b (σ.spawn (chl qc ⟨0, pa, pb, pc⟩ od)).2.2 (K + 1) :: Cells g (c16 ((0 : Nat) : Int) pa pb pc (if od then -(64 * (qc + 1)) else 64 * (qc + 1)) qc) 49 :: l')) := fun w' g l' h' => spawnC w0 w' _ b σ K ht h' hσ (some ⟨g, 0, none⟩) 4 4 (chl qc ⟨0, pa, pb, pc⟩ od) rfl (fun w'' h'' => c16_at h'') (by intro q hq; simp [chl] at hq; rcases hq with rfl | rfl | rfl | rfl <;> simp) (by decide) hK
  generalize σ.spawn (chl qc ⟨0, pa, pb, pc⟩ od) = sp at *
  obtain ⟨sp1, sp2, sp3⟩ := sp
  simp only at HSP ⊢
  clear h h1 hσ hl h0 gc hsn hP hod ht
  simp only [Cp.ag] at HG
  go_enter Tryd.func37, Tryd.ntmps37
  go_wp2_with fail
  refine HG.out.mono ?_
  rintro e w1 ⟨rfl, hO⟩
  have hB := (hO.allocC #[.int .u8 0, .int .i32 pa, .int .i32 pb, .int .i32 pc] 49).drew
  have z0 := hB.cell 0
  have z1 := hB.cell 1
  have z2 := hB.cell 2
  have z3 := hB.cell 3
  have y0 := hB.three.cell 0
  have y1 := hB.three.cell 1
  have y2 := hB.three.cell 2
  have y3 := hB.three.cell 3
  simp at z0 z1 z2 z3 y0 y1 y2 y3
  have HB : Hid (Own w0 _ _) := hB
  clear hO hB HG
  go_wp2_with fail
  go_region_held3 (fun w' : World => w'.cell? ⟨w1.heap.size, 0, none⟩ = some (.int .u8 0) ∧ w'.cell? ⟨w1.heap.size, 1, none⟩ = some (.int .i32 pa) ∧ w'.cell? ⟨w1.heap.size, 2, none⟩ = some (.int .i32 pb) ∧ w'.cell? ⟨w1.heap.size, 3, none⟩ = some (.int .i32 pc) ∧ w'.cell? ⟨w.heap.size, 0, none⟩ = some (.int .u8 (kk : Int)) ∧ w'.cell? ⟨w.heap.size, 1, none⟩ = some (.int .i32 qa) ∧ w'.cell? ⟨w.heap.size, 2, none⟩ = some (.int .i32 qb) ∧ w'.cell? ⟨w.heap.size, 3, none⟩ = some (.int .i32 qc)) (go_keep)
      (first
       | (go_at_call 70; refine (HSL.out _).mono ?_; rintro e w2 ⟨rfl, rfl⟩)
       | (go_at_call 69; refine (HCH.out _ _ _ rfl HB.out).mono ?_; rintro e w3 ⟨g, rfl, hO3⟩
          have z0 := hO3.two.cell 0
          have z1 := hO3.two.cell 1
          have z2 := hO3.two.cell 2
          have z3 := hO3.two.cell 3
          have y0 := hO3.four.cell 0
          have y1 := hO3.four.cell 1
          have y2 := hO3.four.cell 2
          have y3 := hO3.four.cell 3
          simp at z0 z1 z2 z3 y0 y1 y2 y3
          have H3 : Hid (Own w0 w3 _) := hO3
          clear hO3)
       | (go_at_call 23; refine (HSP.out _ _ _ H3.out.three).mono ?_; rintro e w4 ⟨rfl, hO4⟩
          have z0 := hO4.three.cell 0
          have z1 := hO4.three.cell 1
          have z2 := hO4.three.cell 2
          have z3 := hO4.three.cell 3
          have y0 := hO4.four.cell 0
          have y1 := hO4.four.cell 1
          have y2 := hO4.four.cell 2
          have y3 := hO4.four.cell 3
          simp at z0 z1 z2 z3 y0 y1 y2 y3
          have H4 : Hid (Own w0 w4 _) := hO4
          clear hO4))
  all_goals
    go_wp2
    go_ret2
    exact ⟨rfl, H4.out.two.tail.two.tail.two.tail⟩
set_option maxHeartbeats 4000000 in
theorem breed_ok (w0 w : World) (l : List Thing) (b : Nat) (σ : Sto) (K : Nat) (ht : Tab w0) (h : Own w0 w (Store b σ K :: l)) (hσ : σ.Ok) (hK : K ≤ 900000) :
    Calls Tryd.prog 15 #[.pointer (some ⟨b, 0, none⟩)] w fun e w' => ∃ ao cap, e = .returned (.slice ao (σ.brs (σ.find 33 0)).2.length cap) ∧ Own w0 w' (Row 38 1 (.slice ao (σ.brs (σ.find 33 0)).2.length cap) (σ.brs (σ.find 33 0)).2.length (irow .u32 (σ.brs (σ.find 33 0)).2) :: Store b (σ.brs (σ.find 33 0)).1 (K + 1024) :: l) := by
  obtain ⟨i0, hi, hz0, hz1, hz2⟩ := info_parts Tryd.infoID2
  have hLV : ∀ id ∈ σ.S.list, σ.S.isLive id = true ∧ id < 4294967296 := fun id hid => St.list_iv1 hσ.s hid
  have HW : Hid (Calls _ _ _ _ _) := with_g w0 w l (some ⟨b, 0, none⟩) (Store b σ K) _ h 33 0 (iter_store w0 b σ K hσ (by omega) hLV 33 0 (by decide) (by decide) ht) (Sto.find_len hσ.s 33 0)
  have hlen := Sto.find_len hσ.s 33 0
  have HIN : Hid (∀ id ∈ σ.find 33 0, σ.S.isLive id = true ∧ id < 4294967296 ∧ hasK (σ.cps id) 5 = true ∧ hasK (σ.cps id) 0 = true) := by
    intro id hid
    obtain ⟨h1, h2, h3⟩ := mem_find hσ hid
    exact ⟨h1, h2, h3 5 (by decide), h3 0 (by decide)⟩
  have HT : Hid (Tab w0) := ht
  have HSI : Hid (∀ j, (σ.brs ((σ.find 33 0).take j)).1.Ok ∧ (∀ x, σ.S.isLive x = true → (σ.brs ((σ.find 33 0).take j)).1.S.isLive x = true ∧ ∀ k, hasK ((σ.brs ((σ.find 33 0).take j)).1.cps x) k = hasK (σ.cps x) k) ∧ (σ.brs ((σ.find 33 0).take j)).2.length ≤ j) := by
    intro j
    obtain ⟨i1, i3, i4⟩ := Sto.brs_inv hσ ((σ.find 33 0).take j)
    exact ⟨i1, i3, Nat.le_trans i4 (by rw [List.length_take]; omega)⟩
  obtain ⟨X, hX⟩ : ∃ X, σ.find 33 0 = X := ⟨_, rfl⟩
  rw [hX] at HW hlen HIN HSI ⊢
  obtain ⟨M, hM⟩ : ∃ M : Nat → Sto × List Nat, M = fun j => σ.brs (X.take j) := ⟨_, rfl⟩
  have HM0 : Hid (M 0 = (σ, [])) := by show _ = _; rw [hM]; simp [Sto.brs]
  have HMS : Hid (∀ (j id : Nat), X[j]? = some id → M (j + 1) = (((M j).1.br id).2, (M j).2 ++ ((M j).1.br id).1.toList)) := by
    intro j id hd
    rw [hM]
    simp only
    rw [List.take_add_one, hd]
    exact Sto.brs_snoc σ (X.take j) id
  have HME : Hid (M X.length = σ.brs X) := by show _ = _; rw [hM]; simp
  have HMI : Hid (∀ j, (M j).1.Ok ∧ (∀ x, σ.S.isLive x = true → (M j).1.S.isLive x = true ∧ ∀ k, hasK ((M j).1.cps x) k = hasK (σ.cps x) k) ∧ (M j).2.length ≤ j) := by rw [hM]; exact HSI.out
  rw [← HME.out]
  clear h hX hLV hσ ht HSI hM HME
  generalize hxl : X.length = xl at *
  have HXL : Hid (X.length = xl) := hxl
  clear hxl
  go_enter Tryd.func15, Tryd.ntmps15
  go_wp2_with fail
  refine HW.out.mono ?_
  rintro e w1 ⟨la, lc, rfl, hO1⟩
  have H1 : Hid (Own w0 w1 _) := hO1.nilRow 38 1
  clear hO1 HW
  go_wp2
  go_loopw [3, 13] (fun v3 v9 wr => ∃ j : Nat, j ≤ xl ∧ v9 = .int .i64 j ∧ ∃ a1 c1, v3 = .slice a1 (M j).2.length c1 ∧ Own w0 wr (Row 38 1 (.slice a1 (M j).2.length c1) (M j).2.length (irow .u32 (M j).2) :: Row 38 1 (.slice la xl lc) xl (irow .u32 X) :: Store b (M j).1 (K + j) :: l)) (fun _ v9 _ => xl - (intOf v9).toNat)
  case atStart => exact ⟨0, Nat.zero_le _, rfl, none, 0, by rw [HM0.out]; rfl, by rw [HM0.out]; exact H1.out⟩
  case round =>
    obtain ⟨j, hj, rfl, a1, c1, rfl, hO⟩ := hrel
    have HO : Hid (Own w0 wr _) := hO
    clear H1 HM0
    by_cases hlt : j < xl
    · have hlt' : (j : Int) < (xl : Int) := by omega
      obtain ⟨id, hid⟩ : ∃ id, X[j]? = some id := ⟨_, List.getElem?_eq_getElem (by rw [HXL.out]; exact hlt)⟩
      obtain ⟨g, cp, hv, _⟩ := row_shape hO.two.row (by omega)
      have hla := (Value.slice.inj hv).1
      subst hla
      have e0 : wr.cell? ⟨g, j, none⟩ = some (.int .u32 (id : Int)) := by
        rw [hO.two.row.cellAt _ (by omega), getElem?_irow, hid]; rfl
      obtain ⟨hl0, h32, hk5, hk0⟩ := HIN.out id (List.mem_of_getElem? hid)
      obtain ⟨i1, i3, i4⟩ := HMI.out j
      obtain ⟨i2, i3⟩ := i3 id hl0
      rw [← i3 5] at hk5
      rw [← i3 0] at hk0
      have HST : Hid (M (j + 1) = (((M j).1.br id).2, (M j).2 ++ ((M j).1.br id).1.toList)) := HMS.out j id hid
      obtain ⟨gk, gc⟩ := gv_of i1 i2 hk5
      obtain ⟨⟨ga1, ga2⟩, ⟨gb1, gb2⟩, gc1, gc2⟩ := spawn_in gk gc
      have HG : Hid (Calls _ _ _ _ _) := sgetC w0 wr _ b (M j).1 _ hO.three i1 id h32 i2 5 (by decide)
      rw [hk5] at HG
      have HBR : Hid ((M j).1.br id = if ((M j).1.gv id 5).b = 0 then if ((M j).1.spawn (chl ((M j).1.gv id 5).c ((M j).1.gv id 0) (decide (id % 1024 % 2 = 1)))).2.1 = 0 then (some ((M j).1.spawn (chl ((M j).1.gv id 5).c ((M j).1.gv id 0) (decide (id % 1024 % 2 = 1)))).1, (((M j).1.spawn (chl ((M j).1.gv id 5).c ((M j).1.gv id 0) (decide (id % 1024 % 2 = 1)))).2.2.set id ⟨5, ((M j).1.gv id 5).a, ((M j).1.gv id 5).a - 1, ((M j).1.gv id 5).c⟩).2) else (none, (M j).1) else (none, ((M j).1.set id ⟨5, ((M j).1.gv id 5).a, ((M j).1.gv id 5).b - 1, ((M j).1.gv id 5).c⟩).2)) := rfl
      have HBG : Hid (∀ w' l' (kk : Nat) (qa qb : Int), Own w0 w' (Store b (M j).1 (K + j) :: l') → Calls Tryd.prog 37 #[.pointer (some ⟨b, 0, none⟩), .int .u32 (id : Int), .agg #[.int .u8 (kk : Int), .int .i32 qa, .int .i32 qb, .int .i32 ((M j).1.gv id 5).c]] w' fun e w'' => e = .returned (.tuple #[.int .u32 (((M j).1.spawn (chl ((M j).1.gv id 5).c ((M j).1.gv id 0) (decide (id % 1024 % 2 = 1)))).1 : Int), .int .i64 ((M j).1.spawn (chl ((M j).1.gv id 5).c ((M j).1.gv id 0) (decide (id % 1024 % 2 = 1)))).2.1]) ∧ Own w0 w'' (Store b ((M j).1.spawn (chl ((M j).1.gv id 5).c ((M j).1.gv id 0) (decide (id % 1024 % 2 = 1)))).2.2 (K + j + 1) :: l')) := fun w' l' kk qa qb h' => beget_ok w0 w' l' b (M j).1 (K + j) HT.out h' i1 (by omega) id h32 i2 hk0 kk qa qb _ gc1 (by omega)
      have hokS := Sto.spawn_ok i1 (chl ((M j).1.gv id 5).c ((M j).1.gv id 0) (decide (id % 1024 % 2 = 1)))
      have HSB : Hid (((M j).1.spawn (chl ((M j).1.gv id 5).c ((M j).1.gv id 0) (decide (id % 1024 % 2 = 1)))).2.1 ≠ 0 → ((M j).1.spawn (chl ((M j).1.gv id 5).c ((M j).1.gv id 0) (decide (id % 1024 % 2 = 1)))).2.2 = (M j).1) := fun hne => Sto.spawn_bad hne
      have HSE : Hid (∀ (τ : Sto), τ.Ok → ∀ w' l' (K' : Nat) (c : Cp), c.k = 5 → K' ≤ 950000 → Own w0 w' (Store b τ K' :: l') → Calls Tryd.prog 35 #[.pointer (some ⟨b, 0, none⟩), .int .u32 (id : Int), c.ag] w' fun e w'' => ∃ r, e = .returned (.int .i64 r) ∧ Own w0 w'' (Store b (τ.set id c).2 K' :: l')) := fun τ hτ w' l' K' c hc hK' h' => by
        refine (setC0 w0 w' l' b τ K' HT.out h' hτ id h32 c (by omega) (by omega)).mono ?_
        rintro e w'' ⟨rfl, h2⟩
        exact ⟨_, rfl, h2⟩
      rw [HBR.out] at HST
      generalize (M j).1.spawn (chl ((M j).1.gv id 5).c ((M j).1.gv id 0) (decide (id % 1024 % 2 = 1))) = sp at *
      have HS1 : Hid (∀ w' l', Own w0 w' (Store b (M j).1 (K + j) :: l') → Calls Tryd.prog 35 #[.pointer (some ⟨b, 0, none⟩), .int .u32 (id : Int), (⟨5, ((M j).1.gv id 5).a, ((M j).1.gv id 5).b - 1, ((M j).1.gv id 5).c⟩ : Cp).ag] w' fun e w'' => ∃ r, e = .returned (.int .i64 r) ∧ Own w0 w'' (Store b ((M j).1.set id ⟨5, ((M j).1.gv id 5).a, ((M j).1.gv id 5).b - 1, ((M j).1.gv id 5).c⟩).2 (K + j) :: l')) := fun w' l' h' => HSE.out _ i1 w' l' _ _ rfl (by omega) h'
      have HS2 : Hid (∀ w' l', Own w0 w' (Store b sp.2.2 (K + j + 1) :: l') → Calls Tryd.prog 35 #[.pointer (some ⟨b, 0, none⟩), .int .u32 (id : Int), (⟨5, ((M j).1.gv id 5).a, ((M j).1.gv id 5).a - 1, ((M j).1.gv id 5).c⟩ : Cp).ag] w' fun e w'' => ∃ r, e = .returned (.int .i64 r) ∧ Own w0 w'' (Store b (sp.2.2.set id ⟨5, ((M j).1.gv id 5).a, ((M j).1.gv id 5).a - 1, ((M j).1.gv id 5).c⟩).2 (K + j + 1) :: l')) := fun w' l' h' => HSE.out _ hokS w' l' _ _ rfl (by omega) h'
      clear hO hid hv i1 i2 i3 HBR gc HSE hokS hl0 hk0 hk5
      generalize (M j).1.gv id 5 = q at *
      generalize (M j).1.gv id 0 = pq at *
      generalize (M j).1 = sj at *
      generalize (M j).2 = Lj at *
      generalize hll : Lj.length = ll at *
      have HLL : Hid (Lj.length = ll) := hll
      clear hll
      obtain ⟨qk, qa, qb, qc⟩ := q
      obtain ⟨sp1, sp2, sp3⟩ := sp
      simp only [Cp.ag] at HG HS1 HS2 HST HBG HSB ga1 ga2 gb1 gb2 gc1 gc2 gk
      subst gk
      go_wp2_with fail
      refine HG.out.mono ?_
      rintro e w2 ⟨rfl, hO2⟩
      by_cases hq0 : qb = 0
      · subst hq0
        rw [if_pos rfl] at HST
        have hO3 := hO2.allocC #[.int .u8 5, .int .i32 qa, .int .i32 0, .int .i32 qc] 49
        have HB : Hid (Calls _ _ _ _ _) := HBG.out _ _ 5 qa 0 hO3.two
        clear hO2 hO3 HG HBG HS1 HO
        go_wp2_with fail
        refine HB.out.mono ?_
        rintro e w3 ⟨rfl, hO4⟩
        by_cases hs : sp2 = 0
        · subst hs
          rw [if_pos rfl] at HST
          simp only [Option.toList_some] at HST
          have z0 := hO4.two.cell 0
          have z1 := hO4.two.cell 1
          have z2 := hO4.two.cell 2
          have z3 := hO4.two.cell 3
          simp at z0 z1 z2 z3
          have H4 : Hid (Own w0 w3 _) := hO4.three
          clear hO4 HB HSB
          go_wp2_with (at_builtin; refine append1_own rfl _ _ 29 rfl 38 i0 (.int .u32 0) 1 4 Tryd.underlying29 hi hz0 hz1 hz2 rfl (by decide) _ _ _ rfl H4.out _ _ (by simp) rfl rfl (one_int _ _) (by unfold maxLen; omega) (by omega) ?_)
          intro g6 c6 w6 hO6 hsz6
          have z0 := hO6.three.cell 0
          have z1 := hO6.three.cell 1
          have z2 := hO6.three.cell 2
          have z3 := hO6.three.cell 3
          simp at z0 z1 z2 z3
          have y0 := hO6.three.froz 0
          have y1 := hO6.three.froz 1
          have y2 := hO6.three.froz 2
          have y3 := hO6.three.froz 3
          have hO7 := (hO6.three.setC 2 (.int .i32 qa)).setC 2 (.int .i32 (qa - 1))
          have HS : Hid (Calls _ _ _ _ _) := HS2.out _ _ hO7.three
          clear hO7 HS2 H4
          go_wp2_with fail
          refine HS.out.mono ?_
          rintro e w7 ⟨r7, rfl, hO8⟩
          have H8 : Hid (Own w0 w7 (Row 38 1 (.slice (some ⟨g6, 0, none⟩) (ll + 1) c6) (ll + 1) (irow .u32 (M (j + 1)).2) :: Row 38 1 (.slice (some ⟨g, 0, none⟩) xl lc) xl (irow .u32 X) :: Store b (M (j + 1)).1 (K + (j + 1)) :: l)) := by
            show Own _ _ _
            rw [HST.out, ← Nat.add_assoc]
            have h9 := hO8.two.tail.back3
            simpa [irow] using h9
          have HRL2 : Hid ((M (j + 1)).2.length = ll + 1) := by show _ = _; rw [HST.out, List.length_append, HLL.out]; rfl
          clear hO6 hsz6 hO8
          go_wp2
          go_roundw
          case rel => exact ⟨j + 1, by omega, by go_num, _, _, by rw [HRL2.out], by rw [HRL2.out]; exact H8.out⟩
          case measure => simp [intOf]; omega
        · rw [if_neg hs] at HST
          have hne : (sp2 != 0) = true := by simpa using hs
          have hsb : sp3 = sj := HSB.out hs
          subst hsb
          simp only [Option.toList_none, List.append_nil] at HST
          have H4 : Hid (Own w0 w3 _) := (Own.stoK (show K + j + 1 ≤ K + (j + 1) by omega) hO4).two.tail.back3
          clear hO4 HB HSB HS2
          go_wp2
          go_roundw
          case rel => exact ⟨j + 1, by omega, by go_num, a1, c1, by rw [HST.out, HLL.out], by rw [HST.out, HLL.out]; exact H4.out⟩
          case measure => simp [intOf]; omega
      · rw [if_neg hq0] at HST
        simp only [Option.toList_none, List.append_nil] at HST
        have hne : (qb == 0) = false := by simpa using hq0
        have hO4 := hO2.allocC #[.int .u8 5, .int .i32 qa, .int .i32 (qb - 1), .int .i32 qc] 49
        have HS : Hid (Calls _ _ _ _ _) := HS1.out _ _ hO4.two
        clear hO2 HG HS1 HS2 HBG HSB HO hO4
        go_wp2_with fail
        refine HS.out.mono ?_
        rintro e w3 ⟨r3, rfl, hO5⟩
        have H5 : Hid (Own w0 w3 _) := (Own.stoK (show K + j ≤ K + (j + 1) by omega) hO5).two.tail
        clear hO5 HS
        go_wp2
        go_roundw
        case rel => exact ⟨j + 1, by omega, by go_num, a1, c1, by rw [HST.out, HLL.out], by rw [HST.out, HLL.out]; exact H5.out.back3⟩
        case measure => simp [intOf]; omega
    · have hlt' : ¬ (j : Int) < (xl : Int) := by omega
      have hjn : j = xl := by omega
      subst hjn
      clear hO
      go_wp2
      go_ret
      exact ⟨a1, c1, rfl, (Own.stoK (show K + j ≤ K + 1024 by omega) HO.out.two.tail.two).two⟩
end Go.Proofs.YtehancopmpcpmaaDoor

/-
  Entities that are made in a store and in the document's: fill of layer 14.
-/
namespace Go.Proofs.YtehancopmpcpmaaDoor
open Go.RowKit Go.Maps
set_option linter.unusedVariables false
set_option maxRecDepth 100000

/-- the components of one that is made -/
structure LsE where
  C : List Cp
  ao : Option Addr
  cap : Nat
def Lss (w : World) (ao : Option Addr) (L : List LsE) : Prop := (L = [] ∨ ∃ g o, ao = some ⟨g, o, none⟩ ∧ ∀ (j : Nat) x, L[j]? = some x → w.cell? ⟨g, o + j, none⟩ = some (.slice x.ao x.C.length x.cap)) ∧ ∀ x ∈ L, Cs w x.ao x.C
theorem Lss.at {w : World} {ao : Option Addr} {L : List LsE} (h : Lss w ao L) (j : Nat) (x : LsE) (hx : L[j]? = some x) : ∃ g o, ao = some ⟨g, o, none⟩ ∧ w.cell? ⟨g, o + j, none⟩ = some (.slice x.ao x.C.length x.cap) := by
  rcases h.1 with h | ⟨g, o, ha, hc⟩
  · subst h; simp at hx
  · exact ⟨g, o, ha, hc j x hx⟩
theorem Lss.quiet {w w' : World} {ao : Option Addr} {L : List LsE} (h : Lss w ao L) (hf : Fr Nobody w w') : Lss w' ao L := by
  refine ⟨?_, fun x hx => (h.2 x hx).quiet hf⟩
  rcases h.1 with h | ⟨g, o, ha, hc⟩
  · exact .inl h
  · refine .inr ⟨g, o, ha, fun j x hx => ?_⟩
    have h0 := hc j x hx
    exact (hf.cell (p := ⟨g, o + j, none⟩) (World.block_lt_of_cell? w _ h0) (fun h => h)).trans h0
def lstep (σ : Sto) (x : LsE) : Sto := (σ.spawn (x.C.take 20)).2.2
def fillL (k : Nat) (Q : List LsE) : Sto := (Q.take 50).foldl lstep (Sto.new k 1)
theorem lfold_ok (L : List LsE) (σ : Sto) (h : σ.Ok) : (L.foldl lstep σ).Ok := by
  induction L generalizing σ with
  | nil => exact h
  | cons x L ih => exact ih _ (Sto.spawn_ok h _)
theorem newk_ok {k : Nat} (h1 : 1 ≤ k) (h2 : k ≤ 40) : (Sto.new k 1).Ok := Sto.new_ok k 1 h1 (by omega) (by decide) (by decide)
theorem fillL_ok {k : Nat} (h1 : 1 ≤ k) (h2 : k ≤ 40) (Q : List LsE) : (fillL k Q).Ok := lfold_ok _ _ (newk_ok h1 h2)
theorem Own.rcs3 {w0 w : World} {l : List Thing} {ao : Option Addr} {cap n : Nat} {L : List Cp} (h : Own w0 w (Row 49 4 (.slice ao n cap) n (ccat L) :: l)) (hn : L.length = n) : Cs w ao L := Own.cs (h.view (by decide)) hn
set_option maxHeartbeats 4000000 in
theorem fillL_go (w0 w : World) (l : List Thing) (h : Own w0 w l) (ht : Tab w0) (m : Nat) (hm : m < 256) (ao : Option Addr) (n cap : Nat) (Q : List LsE) (hn : Q.length = n) (hn6 : n ≤ 9223372036854775807) (hQ : ∀ w', Own w0 w' l → Lss w' ao Q) (hw : ∀ x ∈ Q, x.C.length ≤ x.cap ∧ x.cap ≤ 9223372036854775807 ∧ ∀ q ∈ x.C, q.k < 256) :
    Calls Tryd.prog 8 #[.int .u8 (m : Int), .slice ao n cap] w fun e w' => ∃ b bx, e = .returned (.tuple #[.pointer (some ⟨b, 0, none⟩), .pointer (some ⟨bx, 0, none⟩)]) ∧ Own w0 w' (Store b (fillL (1 + m % 40) Q) 50 :: RSto bx (fillL (1 + m % 40) Q) 50 :: l) := by
  have HN : Hid (Q.length = n) := hn
  have HQ : Hid (∀ w', Own w0 w' l → Lss w' ao Q) := hQ
  have HW : Hid (∀ x ∈ Q, x.C.length ≤ x.cap ∧ x.cap ≤ 9223372036854775807 ∧ ∀ q ∈ x.C, q.k < 256) := hw
  have HT : Hid (Tab w0) := ht
  obtain ⟨r, hr⟩ : ∃ r, r = m % 40 := ⟨_, rfl⟩
  have hr40 : r < 40 := by omega
  have hmr : (m : Int) % 40 = (r : Int) := by omega
  rw [← hr]
  have HS1 : Hid (Calls Tryd.prog 21 #[.int .i64 (1 + (r : Int)), .int .i64 1] w fun e w'' => ∃ b, e = .returned (.tuple #[.pointer (some ⟨b, 0, none⟩), .int .i64 0]) ∧ Own w0 w'' (Store b (Sto.new (1 + r) 1) 0 :: l)) := by
    have := snew w0 w l (1 + r) 1 h (by omega) (by omega) (by decide) (by decide)
    rw [show ((1 + r : Nat) : Int) = 1 + (r : Int) by omega] at this
    exact this
  have HS2 : Hid (∀ w' l', Own w0 w' l' → Calls Tryd.prog 22 #[.int .i64 (1 + (r : Int)), .int .i64 1] w' fun e w'' => ∃ b, e = .returned (.tuple #[.pointer (some ⟨b, 0, none⟩), .int .i64 0]) ∧ Own w0 w'' (RSto b (Sto.new (1 + r) 1) 0 :: l')) := fun w' l' h' => by
    have := rnewS w0 w' l' h' (1 + r) 1 (by omega) (by omega) (by decide) (by decide)
    rw [show ((1 + r : Nat) : Int) = 1 + (r : Int) by omega] at this
    exact this
  have HOK : Hid (∀ j, ((Q.take j).foldl lstep (Sto.new (1 + r) 1)).Ok) := fun j => lfold_ok _ _ (newk_ok (by omega) (by omega))
  clear h hn hQ hw ht hr
  go_enter Tryd.func8, Tryd.ntmps8
  go_wp2_with fail
  refine HS1.out.mono ?_
  rintro e w1 ⟨b, rfl, hO1⟩
  have H1 : Hid (Own w0 w1 _) := hO1
  clear hO1 HS1
  go_wp2_with fail
  refine (HS2.out _ _ H1.out).mono ?_
  rintro e w2 ⟨bx, rfl, hO2⟩
  have H2 : Hid (Own w0 w2 (Store b (Sto.new (1 + r) 1) 0 :: RSto bx (Sto.new (1 + r) 1) 0 :: l)) := hO2.two
  clear hO2 HS2 H1
  go_wp2
  go_loopw [29] (fun jv wr => ∃ j : Nat, j ≤ n ∧ j ≤ 50 ∧ jv = .int .i64 j ∧ Own w0 wr (Store b ((Q.take j).foldl lstep (Sto.new (1 + r) 1)) j :: RSto bx ((Q.take j).foldl lstep (Sto.new (1 + r) 1)) j :: l)) (fun jv _ => n - (intOf jv).toNat)
  case atStart => exact ⟨0, Nat.zero_le _, Nat.zero_le _, rfl, by simpa using H2.out⟩
  case round =>
    obtain ⟨j, hj, hj5, rfl, hO⟩ := hrel
    clear H2
    have hok := HOK.out j
    have HO : Hid (Own w0 wr _) := hO
    have HEND : Hid (j = n ∨ j = 50 → Own w0 wr (Store b (fillL (1 + r) Q) 50 :: RSto bx (fillL (1 + r) Q) 50 :: l)) := by
      intro hor
      have e : (Q.take j).foldl lstep (Sto.new (1 + r) 1) = fillL (1 + r) Q := by
        unfold fillL
        rcases hor with q | q
        · rw [List.take_of_length_le (by rw [HN.out]; omega), List.take_of_length_le (by rw [HN.out]; omega)]
        · rw [q]
      have h9 := HO.out
      rw [e] at h9
      exact (Own.rstoK (K' := 50) hj5 (h9.stoK (K' := 50) hj5).two).two
    by_cases hlt : j < n
    · have hlt' : (j : Int) < (n : Int) := by omega
      obtain ⟨x, hx⟩ : ∃ x, Q[j]? = some x := ⟨_, List.getElem?_eq_getElem (by rw [HN.out]; exact hlt)⟩
      obtain ⟨g, off, hao, c0⟩ := (HQ.out wr hO.tail.tail).at j x hx
      subst hao
      by_cases h50 : j < 50
      · have h50' : ¬ (50 : Int) ≤ (j : Int) := by omega
        obtain ⟨hw1, hw2, hCk⟩ := HW.out x (List.mem_of_getElem? hx)
        obtain ⟨k, hk⟩ : ∃ k, k = min x.C.length 20 := ⟨_, rfl⟩
        have hmin : min (x.C.length : Int) 20 = (k : Int) := by omega
        have hk1 : k ≤ x.C.length := by omega
        have hk2 : k ≤ x.cap := by omega
        have hk20 : k ≤ 20 := by omega
        have hkC : (x.C.take 20).length = k := by rw [List.length_take, hk, Nat.min_comm]
        have hCk2 : ∀ q ∈ x.C.take 20, q.k < 256 := fun q hq => hCk q (List.mem_of_mem_take hq)
        have hCS : ∀ w', Own w0 w' l → Cs w' x.ao (x.C.take 20) := fun w' h' => ((HQ.out w' h').2 x (List.mem_of_getElem? hx)).take 20
        have HFJ : Hid ((Q.take (j + 1)).foldl lstep (Sto.new (1 + r) 1) = (((Q.take j).foldl lstep (Sto.new (1 + r) 1)).spawn (x.C.take 20)).2.2) := by
          show _ = _
          rw [List.take_add_one, hx]
          simp only [Option.toList_some, List.foldl_append, List.foldl_cons, List.foldl_nil]
          rfl
        generalize (Q.take j).foldl lstep (Sto.new (1 + r) 1) = σ at *
        have HTW : Hid (Calls _ _ _ _ _) := twin_any w0 wr _ hO x.ao k x.cap (x.C.take 20) hkC (hCS _ hO.tail.tail) (by omega)
        have HSP : Hid (∀ w' a2 c2, Own w0 w' (Row 49 4 (.slice a2 k c2) k (ccat (x.C.take 20)) :: Store b σ j :: RSto bx σ j :: l) → Calls Tryd.prog 23 #[.pointer (some ⟨b, 0, none⟩), .slice a2 k c2] w' fun e w'' => e = .returned (.tuple #[.int .u32 ((σ.spawn (x.C.take 20)).1 : Int), .int .i64 (σ.spawn (x.C.take 20)).2.1]) ∧ Own w0 w'' (Store b (σ.spawn (x.C.take 20)).2.2 (j + 1) :: RSto bx σ j :: l)) := by
          intro w' a2 c2 h'
          refine (spawnC w0 w' _ b σ j HT.out h'.two hok a2 k c2 (x.C.take 20) hkC (fun w'' h'' => Own.rcs3 h'' hkC) hCk2 (by omega) (by omega)).mono ?_
          rintro e w'' ⟨rfl, h2⟩
          exact ⟨rfl, h2.two.tail⟩
        have HRS : Hid (∀ w', Own w0 w' (Store b (σ.spawn (x.C.take 20)).2.2 (j + 1) :: RSto bx σ j :: l) → Calls Tryd.prog 25 #[.pointer (some ⟨bx, 0, none⟩), .slice x.ao k x.cap] w' fun e w'' => e = .returned (.tuple #[.int .u32 ((σ.spawn (x.C.take 20)).1 : Int), .int .i64 (σ.spawn (x.C.take 20)).2.1]) ∧ Own w0 w'' (Store b (σ.spawn (x.C.take 20)).2.2 (j + 1) :: RSto bx (σ.spawn (x.C.take 20)).2.2 (j + 1) :: l)) := by
          intro w' h'
          refine (rspawnC w0 w' _ bx σ j h'.two hok x.ao k x.cap (x.C.take 20) hkC (fun w'' h'' => hCS _ h''.tail) hCk2 (by omega) (by omega)).mono ?_
          rintro e w'' ⟨rfl, h2⟩
          exact ⟨rfl, h2.two⟩
        clear hO hx hCk hCk2 hCS hkC hk hok HEND HO
        generalize σ.spawn (x.C.take 20) = sp at *
        obtain ⟨sid, ser, σ2⟩ := sp
        obtain ⟨xC, xa, xc⟩ := x
        simp only at c0 hmin hk1 hk2 hw1 hw2 HTW HSP HRS HFJ
        generalize xC.length = xl at *
        go_wp2_with fail
        refine HTW.out.mono ?_
        rintro e w3 ⟨a2, c2, rfl, hO3⟩
        have HSP3 : Hid (Calls _ _ _ _ _) := HSP.out _ _ _ hO3
        clear hO3 HTW HSP c0
        go_wp2_with fail
        refine HSP3.out.mono ?_
        rintro e w4 ⟨rfl, hO4⟩
        have HRS4 : Hid (Calls _ _ _ _ _) := HRS.out _ hO4
        clear hO4 HSP3 HRS
        go_wp2_with fail
        refine HRS4.out.mono ?_
        rintro e w5 ⟨rfl, hO5⟩
        have H5 : Hid (Own w0 w5 _) := hO5
        clear hO5 HRS4
        go_wp2
        go_roundw
        case rel => exact ⟨j + 1, by omega, by omega, by go_num, by rw [HFJ.out]; exact H5.out⟩
        case measure => simp [intOf]; omega
      · have h50' : (50 : Int) ≤ (j : Int) := by omega
        have H9 : Hid (Own w0 wr _) := HEND.out (.inr (by omega))
        obtain ⟨xC, xa, xc⟩ := x
        simp only at c0
        clear hO HO HEND hx hok
        go_wp2
        go_ret2
        exact ⟨b, bx, rfl, H9.out⟩
    · have hlt' : ¬ (j : Int) < (n : Int) := by omega
      have H9 : Hid (Own w0 wr _) := HEND.out (.inl (by omega))
      clear hO HO HEND hok
      go_wp2
      go_ret2
      exact ⟨b, bx, rfl, H9.out⟩
end Go.Proofs.YtehancopmpcpmaaDoor

/-
  The document's examples of systems.
-/
namespace Go.Proofs.YtehancopmpcpmaaDoor
open Go.RowKit Go.Maps
set_option linter.unusedVariables false
set_option maxRecDepth 100000

theorem nums_cell1 {w0 w : World} {l : List Thing} {B : Nat} {cs : Array Value} {t : TypeId} (h : Own w0 w (Cells B cs t :: l)) (X : List Nat) (c : Nat) (hX : ∀ (j x : Nat), X[j]? = some x → cs[j]? = some (Value.int .u32 (x : Int))) : Nums .u32 w (.slice (some ⟨B, 0, none⟩) X.length c) X :=
  ⟨_, c, rfl, .inr ⟨B, 0, rfl, fun j x hx => by rw [Nat.zero_add, h.cell, hX j x hx]⟩⟩
theorem cs_cell1 {w0 w : World} {l : List Thing} {B : Nat} {cs : Array Value} {t : TypeId} (h : Own w0 w (Cells B cs t :: l)) (C : List Cp) (hX : ∀ (j : Nat) q, C[j]? = some q → cs[j * 4]? = some (.int .u8 (q.k : Int)) ∧ cs[j * 4 + 1]? = some (.int .i32 q.a) ∧ cs[j * 4 + 2]? = some (.int .i32 q.b) ∧ cs[j * 4 + 3]? = some (.int .i32 q.c)) : Cs w (some ⟨B, 0, none⟩) C := by
  refine .inr ⟨B, 0, rfl, fun j q hq => ?_⟩
  obtain ⟨h0, h1, h2, h3⟩ := hX j q hq
  rw [Nat.zero_add]
  exact ⟨by rw [h.cell, h0], by rw [h.cell, h1], by rw [h.cell, h2], by rw [h.cell, h3]⟩
def aP : Cp := ⟨0, 524280, 0, 0⟩
def aV : Cp := ⟨1, 16, -1, 0⟩
def aL : Cp := ⟨2, 0, 0, 0⟩
def q14 (a1 a2 : Option Addr) : List LsE := [⟨[aP, aV], a1, 2⟩, ⟨[aL], a2, 1⟩]
theorem q14_is (a1 a2 : Option Addr) : fillL 10 (q14 a1 a2) = fillL 10 (q14 none none) := rfl
def s14 : Sto := fillL 10 (q14 none none)
def m14 : Sto := (s14.mvs (s14.find 3 0)).1
def g14 : Sto := (m14.ags (m14.find 4 0)).1
theorem s14_m : (s14.mvs (s14.find 3 0)).2 = [1024] := by kernel_rfl
theorem m14_g : (m14.ags (m14.find 4 0)).2 = [1025] := by kernel_rfl
theorem g14_l : g14.S.isLive 1024 = true := by kernel_rfl
theorem g14_0 : hasK (g14.cps 1024) 0 = true ∧ g14.gv 1024 0 = ⟨0, 524287, -1, 0⟩ := ⟨by kernel_rfl, by kernel_rfl⟩
theorem g14_1 : hasK (g14.cps 1024) 1 = true ∧ g14.gv 1024 1 = ⟨1, -16, -1, 0⟩ := ⟨by kernel_rfl, by kernel_rfl⟩
theorem s14_ok : s14.Ok := fillL_ok (by decide) (by decide) _
theorem m14_ok : m14.Ok := (Sto.mvs_inv s14_ok _).1
theorem g14_ok : g14.Ok := (Sto.ags_inv m14_ok _ (find_nodup m14_ok 4 0) (fun x hx => (mem_find m14_ok hx).1)).1
set_option maxHeartbeats 4000000 in
theorem awake14 (w : World) (ht : Tab w) : Calls Tryd.prog 7 #[] w fun e w' => e = .returned (.bool true) ∧ Fr Nobody w w' := by
  have HT : Hid (Tab w) := ht
  clear ht
  go_enter Tryd.func7, Tryd.ntmps7
  go_wp2_with fail
  have hW := (((Own.start w).allocC #[.int .u8 0, .int .i32 524280, .int .i32 0, .int .i32 0, .int .u8 1, .int .i32 16, .int .i32 (-1), .int .i32 0] 49).allocC #[.int .u8 2, .int .i32 0, .int .i32 0, .int .i32 0] 49).allocC #[.slice (some ⟨w.heap.size, 0, none⟩) 2 2, .slice (some ⟨w.heap.size + 1, 0, none⟩) 1 1] 39
  simp only [World.size_alloc] at hW
  obtain ⟨W0, hW0⟩ : ∃ W0, W0 = ((w.alloc (.cells #[.int .u8 0, .int .i32 524280, .int .i32 0, .int .i32 0, .int .u8 1, .int .i32 16, .int .i32 (-1), .int .i32 0] 49)).alloc (.cells #[.int .u8 2, .int .i32 0, .int .i32 0, .int .i32 0] 49)).alloc (.cells #[.slice (some ⟨w.heap.size, 0, none⟩) 2 2, .slice (some ⟨w.heap.size + 1, 0, none⟩) 1 1] 39) := ⟨_, rfl⟩
  rw [← hW0] at hW ⊢
  have k1 := cs_cell1 hW.three [aP, aV] (fun j q hq => by
    match j, hq with
    | 0, hq => cases hq; exact ⟨rfl, rfl, rfl, rfl⟩
    | 1, hq => cases hq; exact ⟨rfl, rfl, rfl, rfl⟩
    | n + 2, hq => simp at hq)
  have k2 := cs_cell1 hW.two [aL] (fun j q hq => by
    match j, hq with
    | 0, hq => cases hq; exact ⟨rfl, rfl, rfl, rfl⟩
    | n + 1, hq => simp at hq)
  have hMk : Lss W0 (some ⟨w.heap.size + 1 + 1, 0, none⟩) (q14 (some ⟨w.heap.size, 0, none⟩) (some ⟨w.heap.size + 1, 0, none⟩)) := by
    refine ⟨.inr ⟨_, 0, rfl, fun j x hx => ?_⟩, fun x hx => ?_⟩
    · match j, hx with
      | 0, hx => cases hx; rw [hW.cell]; rfl
      | 1, hx => cases hx; rw [hW.cell]; rfl
      | n + 2, hx => simp [q14] at hx
    · simp [q14] at hx
      rcases hx with rfl | rfl
      · exact k1
      · exact k2
  have HFW : Hid (Fr Nobody w W0) := hW.fr
  have HT0 : Hid (Tab W0) := HT.out.quiet HFW.out
  have HFL : Hid (Calls _ _ _ _ _) := fillL_go W0 W0 [] (Own.start W0) HT0.out 9 (by decide) _ 2 2 _ rfl (by decide) (fun w' h' => hMk.quiet h'.fr) (by
    intro x hx
    simp [q14] at hx
    rcases hx with rfl | rfl
    · exact ⟨by simp, by simp, by simp [aP, aV]⟩
    · exact ⟨by simp, by simp, by simp [aL]⟩)
  rw [show fillL (1 + 9 % 40) (q14 (some ⟨w.heap.size, 0, none⟩) (some ⟨w.heap.size + 1, 0, none⟩)) = s14 from rfl] at HFL
  clear hW k1 k2 hMk hW0 HT
  refine HFL.out.mono ?_
  rintro e w1 ⟨b, bx, rfl, hO1⟩
  have HW1 : Hid (Calls _ _ _ _ _) := move_ok W0 w1 _ b s14 50 HT0.out hO1 s14_ok (by decide)
  rw [s14_m] at HW1
  rw [show (s14.mvs (s14.find 3 0)).1 = m14 from rfl] at HW1
  clear hO1 HFL
  go_wp2_with fail
  refine HW1.out.mono ?_
  rintro e w2 ⟨ra, rc, rfl, hO2⟩
  have hB2 := hO2.allocC #[.int .u32 1024] 38
  have HM1 : Hid (Calls _ _ _ _ _) := same_ok _ (.slice ra 1 rc) (.slice (some ⟨w2.heap.size, 0, none⟩) 1 1) [1024] (Own.nums (X := [1024]) hB2.two) (nums_cell1 hB2 [1024] 1 (fun j x hx => by
    match j, hx with
    | 0, hx => cases hx; rfl
    | n + 1, hx => simp at hx)) (by decide)
  have HB2 : Hid (Own W0 _ _) := hB2.tail.tail
  clear hO2 hB2 HW1
  simp only [List.length_cons, List.length_nil, Nat.zero_add]
  go_wp2_with fail
  refine HM1.out.mono ?_
  rintro e w3 ⟨rfl, hf⟩
  have HW2 : Hid (Calls _ _ _ _ _) := age_ok W0 w3 _ b m14 50 HT0.out (HB2.out.quiet hf) m14_ok (by decide)
  rw [m14_g] at HW2
  rw [show (m14.ags (m14.find 4 0)).1 = g14 from rfl] at HW2
  clear hf HM1 HB2
  go_wp2_with fail
  refine HW2.out.mono ?_
  rintro e w4 ⟨ra, rc, rfl, hO4⟩
  have hB4 := hO4.allocC #[.int .u32 1025] 38
  have HM2 : Hid (Calls _ _ _ _ _) := same_ok _ (.slice ra 1 rc) (.slice (some ⟨w4.heap.size, 0, none⟩) 1 1) [1025] (Own.nums (X := [1025]) hB4.two) (nums_cell1 hB4 [1025] 1 (fun j x hx => by
    match j, hx with
    | 0, hx => cases hx; rfl
    | n + 1, hx => simp at hx)) (by decide)
  have HB4 : Hid (Own W0 _ _) := hB4.tail.tail
  clear hO4 hB4 HW2
  simp only [List.length_cons, List.length_nil, Nat.zero_add]
  go_wp2_with fail
  refine HM2.out.mono ?_
  rintro e w5 ⟨rfl, hf⟩
  have HG0 : Hid (Calls _ _ _ _ _) := sgetC W0 w5 _ b g14 _ (HB4.out.quiet hf) g14_ok 1024 (by decide) g14_l 0 (by decide)
  rw [g14_0.1, g14_0.2] at HG0
  have HG1 : Hid (∀ w' l', Own W0 w' (Store b g14 (50 + 1) :: l') → Calls Tryd.prog 20 #[.pointer (some ⟨b, 0, none⟩), .int .u32 1024, .int .u8 1] w' fun e w'' => e = .returned (.tuple #[.agg #[.int .u8 1, .int .i32 (-16), .int .i32 (-1), .int .i32 0], .int .i64 0]) ∧ Own W0 w'' (Store b g14 (50 + 1) :: l')) := fun w' l' h' => by
    have := sgetC W0 w' l' b g14 _ h' g14_ok 1024 (by decide) g14_l 1 (by decide)
    rw [g14_1.1, g14_1.2] at this
    exact this
  clear hf HM2 HB4
  go_wp2_with fail
  refine HG0.out.mono ?_
  rintro e w6 ⟨rfl, hO6⟩
  simp only [Cp.ag]
  have h6 := hO6.allocC #[.int .u8 0, .int .i32 524287, .int .i32 (-1), .int .i32 0] 49
  have HG2 : Hid (Calls _ _ _ _ _) := HG1.out _ _ h6.two
  clear hO6 h6 HG0 HG1
  go_wp2_with fail
  refine HG2.out.mono ?_
  rintro e w7 ⟨rfl, hO7⟩
  have x1 := hO7.two.cell 1
  have x2 := hO7.two.cell 2
  have x3 := hO7.two.cell 3
  have xl := hO7.two.lt
  simp at x1 x2 x3
  have H8 : Hid (Own W0 _ _) := hO7.allocC #[.int .u8 1, .int .i32 (-16), .int .i32 (-1), .int .i32 0] 49
  have eqa := eq_a3 9998
  clear hO7 HG2
  go_wp2
  go_ret
  exact ⟨rfl, HFW.out.trans H8.out.fr⟩
end Go.Proofs.YtehancopmpcpmaaDoor
