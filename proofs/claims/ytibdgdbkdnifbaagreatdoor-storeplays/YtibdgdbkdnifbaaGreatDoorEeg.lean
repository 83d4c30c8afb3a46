/-
  Stores that may be nil, on both sides.
-/
import Derived.Test.YtibdgdbkdnifbaaGreatDoorEcg
import Derived.Test.YtibdgdbkdnifbaaGreatDoorOxg
import Derived.Test.YtibdgdbkdnifbaaGreatDoorDig
namespace Go.Proofs.YtibdgdbkdnifbaaGreatDoor
open Go.RowKit Go.Maps
set_option linter.unusedVariables false
set_option maxRecDepth 100000

theorem Sto.remove_ok {σ : Sto} (h : σ.Ok) (id k : Nat) : (σ.remove id k).2.Ok := by
  unfold Sto.remove
  split
  · exact h
  · rename_i h1
    have hl : σ.S.isLive id = true := by simpa using h1
    split
    · exact h
    · obtain ⟨r, C, hr, he, hC, hm, h6⟩ := h.ent hl
      rw [Sto.cps_of hr he]
      exact Sto.turn_ok h hl (outk_ok hC k)
theorem Sto.spawn_lt {σ : Sto} (h : σ.Ok) (C : List Cp) : (σ.spawn C).1 < 4294967296 := by
  unfold Sto.spawn
  split
  · show 0 < 4294967296; decide
  · split
    · show 0 < 4294967296; decide
    · exact St.take_lt h.s
def StO (p : Option Nat) (σ : Sto) (K : Nat) : Thing := match p with
  | some b => Store b σ K
  | none => Fact True
def RSO (q : Option Nat) (σ : Sto) (K : Nat) : Thing := match q with
  | some b => RSto b σ K
  | none => Fact True
def o0 (z : Bool) (σ : Sto) (C : List Cp) : Nat × Int × Sto := if z then (0, 10, σ) else σ.spawn C
def o2 (z : Bool) (σ : Sto) (id : Nat) : Int × Sto := if z then (10, σ) else σ.despawn id
def o3 (z : Bool) (σ : Sto) (id : Nat) (c : Cp) : Int × Sto := if z then (10, σ) else σ.set id c
def o4 (z : Bool) (σ : Sto) (id : Nat) (c : Cp) : Int × Sto := if z then (10, σ) else σ.add id c
def o5 (z : Bool) (σ : Sto) (id k : Nat) : Int × Sto := if z then (10, σ) else σ.remove id k
def o6 (z : Bool) (σ : Sto) (id k : Nat) : Nat × Cp := if z then (10, ⟨0, 0, 0, 0⟩) else σ.get id k
theorem o0_ok {σ : Sto} (h : σ.Ok) (z : Bool) (C : List Cp) : (o0 z σ C).2.2.Ok ∧ (o0 z σ C).1 < 4294967296 := by
  unfold o0; split
  · exact ⟨h, by show 0 < 4294967296; decide⟩
  · exact ⟨Sto.spawn_ok h C, Sto.spawn_lt h C⟩
theorem o2_ok {σ : Sto} (h : σ.Ok) (z : Bool) (id : Nat) : (o2 z σ id).2.Ok := by unfold o2; split; exact h; exact Sto.despawn_ok h id
theorem o3_ok {σ : Sto} (h : σ.Ok) (z : Bool) (id : Nat) (c : Cp) : (o3 z σ id c).2.Ok := by unfold o3; split; exact h; exact Sto.set_ok h id c
theorem o4_ok {σ : Sto} (h : σ.Ok) (z : Bool) (id : Nat) (c : Cp) : (o4 z σ id c).2.Ok := by unfold o4; split; exact h; exact Sto.add_ok h id c
theorem o5_ok {σ : Sto} (h : σ.Ok) (z : Bool) (id k : Nat) : (o5 z σ id k).2.Ok := by unfold o5; split; exact h; exact Sto.remove_ok h id k
section
variable (w0 w : World) (l : List Thing) (p : Option Nat) (σ : Sto) (K : Nat) (z : Bool)
theorem so_0 (h : Own w0 w (StO p σ K :: l)) (hσ : σ.Ok) (hz : p.isNone = z) (hK : K + 1 < 1000000) (ht : Tab w0) (ao : Option Addr) (len cap : Nat) (C : List Cp) (hCl : C.length = len) (hCs : ∀ w', Own w0 w' l → Cs w' ao C) (hCk : ∀ q ∈ C, q.k < 256) (hlen : len ≤ 1000000) :
    Calls Tryz.prog 8 #[.pointer (pp p), .slice ao len cap] w fun e w' => e = .returned (.tuple #[.int .u32 ((o0 z σ C).1 : Int), .int .i64 (o0 z σ C).2.1]) ∧ Own w0 w' (StO p (o0 z σ C).2.2 (K + 2) :: l) := by
  cases p with
  | none =>
    simp at hz
    subst hz
    refine (spawn_nil w _).mono ?_
    rintro e w' ⟨rfl, hf⟩
    exact ⟨rfl, h.quiet hf⟩
  | some b =>
    simp at hz
    subst hz
    refine (spawnC w0 w l b σ K ht h hσ ao len cap C hCl hCs hCk hlen (by omega)).mono ?_
    rintro e w' ⟨rfl, h2⟩
    exact ⟨rfl, Own.stoK (by omega) h2⟩
theorem ro_0 (h : Own w0 w (RSO p σ K :: l)) (hσ : σ.Ok) (hz : p.isNone = z) (hK : K + 1 < 1000000) (ao : Option Addr) (len cap : Nat) (C : List Cp) (hCl : C.length = len) (hCs : ∀ w', Own w0 w' l → Cs w' ao C) (hCk : ∀ q ∈ C, q.k < 256) (hlen : len ≤ 1000000) :
    Calls Tryz.prog 9 #[.pointer (pp p), .slice ao len cap] w fun e w' => e = .returned (.tuple #[.int .u32 ((o0 z σ C).1 : Int), .int .i64 (o0 z σ C).2.1]) ∧ Own w0 w' (RSO p (o0 z σ C).2.2 (K + 2) :: l) := by
  cases p with
  | none =>
    simp at hz
    subst hz
    refine (rspawn_nil w _).mono ?_
    rintro e w' ⟨rfl, hf⟩
    exact ⟨rfl, h.quiet hf⟩
  | some b =>
    simp at hz
    subst hz
    refine (rspawnC w0 w l b σ K h hσ ao len cap C hCl hCs hCk hlen (by omega)).mono ?_
    rintro e w' ⟨rfl, h2⟩
    exact ⟨rfl, Own.rstoK (by omega) h2⟩
theorem so_2 (h : Own w0 w (StO p σ K :: l)) (hσ : σ.Ok) (hz : p.isNone = z) (hK : K + 1 < 1000000) (id : Nat) (hid : id < 4294967296) :
    Calls Tryz.prog 10 #[.pointer (pp p), .int .u32 (id : Int)] w fun e w' => e = .returned (.int .i64 (o2 z σ id).1) ∧ Own w0 w' (StO p (o2 z σ id).2 (K + 2) :: l) := by
  cases p with
  | none =>
    simp at hz
    subst hz
    refine (despawn_nil w _).mono ?_
    rintro e w' ⟨rfl, hf⟩
    exact ⟨rfl, h.quiet hf⟩
  | some b =>
    simp at hz
    subst hz
    refine (despawnC w0 w l b σ K h hσ id hid (by omega)).mono ?_
    rintro e w' ⟨rfl, h2⟩
    exact ⟨rfl, Own.stoK (by omega) h2⟩
theorem ro_2 (h : Own w0 w (RSO p σ K :: l)) (hσ : σ.Ok) (hz : p.isNone = z) (hK : K + 1 < 1000000) (id : Nat) (hid : id < 4294967296) :
    Calls Tryz.prog 11 #[.pointer (pp p), .int .u32 (id : Int)] w fun e w' => e = .returned (.int .i64 (o2 z σ id).1) ∧ Own w0 w' (RSO p (o2 z σ id).2 (K + 2) :: l) := by
  cases p with
  | none =>
    simp at hz
    subst hz
    refine (rdespawn_nil w _).mono ?_
    rintro e w' ⟨rfl, hf⟩
    exact ⟨rfl, h.quiet hf⟩
  | some b =>
    simp at hz
    subst hz
    refine (rdespawnC w0 w l b σ K h hσ id hid (by omega)).mono ?_
    rintro e w' ⟨rfl, h2⟩
    exact ⟨rfl, Own.rstoK (by omega) h2⟩
theorem so_3 (h : Own w0 w (StO p σ K :: l)) (hσ : σ.Ok) (hz : p.isNone = z) (hK : K + 1 < 1000000) (ht : Tab w0) (id : Nat) (hid : id < 4294967296) (c : Cp) (hk : c.k < 256) :
    Calls Tryz.prog 12 #[.pointer (pp p), .int .u32 (id : Int), c.ag] w fun e w' => e = .returned (.int .i64 (o3 z σ id c).1) ∧ Own w0 w' (StO p (o3 z σ id c).2 (K + 2) :: l) := by
  cases p with
  | none =>
    simp at hz
    subst hz
    refine (set_nil w _ _ _ _ _).mono ?_
    rintro e w' ⟨rfl, hf⟩
    exact ⟨rfl, h.quiet hf⟩
  | some b =>
    simp at hz
    subst hz
    refine (setC0 w0 w l b σ K ht h hσ id hid c hk (by omega)).mono ?_
    rintro e w' ⟨rfl, h2⟩
    exact ⟨rfl, Own.stoK (by omega) h2⟩
theorem ro_3 (h : Own w0 w (RSO p σ K :: l)) (hσ : σ.Ok) (hz : p.isNone = z) (hK : K + 1 < 1000000) (id : Nat) (hid : id < 4294967296) (c : Cp) (hk : c.k < 256) :
    Calls Tryz.prog 14 #[.pointer (pp p), .int .u32 (id : Int), c.ag] w fun e w' => e = .returned (.int .i64 (o3 z σ id c).1) ∧ Own w0 w' (RSO p (o3 z σ id c).2 (K + 2) :: l) := by
  cases p with
  | none =>
    simp at hz
    subst hz
    refine (rset_nil w _ _ _ _ _).mono ?_
    rintro e w' ⟨rfl, hf⟩
    exact ⟨rfl, h.quiet hf⟩
  | some b =>
    simp at hz
    subst hz
    refine (rsetS w0 w l b σ K h hσ id hid c hk (by omega)).mono ?_
    rintro e w' ⟨rfl, h2⟩
    exact ⟨rfl, Own.rstoK (by omega) h2⟩
theorem so_4 (h : Own w0 w (StO p σ K :: l)) (hσ : σ.Ok) (hz : p.isNone = z) (hK : K + 1 < 1000000) (ht : Tab w0) (id : Nat) (hid : id < 4294967296) (c : Cp) (hk : c.k < 256) :
    Calls Tryz.prog 15 #[.pointer (pp p), .int .u32 (id : Int), c.ag] w fun e w' => e = .returned (.int .i64 (o4 z σ id c).1) ∧ Own w0 w' (StO p (o4 z σ id c).2 (K + 2) :: l) := by
  cases p with
  | none =>
    simp at hz
    subst hz
    refine (add_nil w _ _ _ _ _).mono ?_
    rintro e w' ⟨rfl, hf⟩
    exact ⟨rfl, h.quiet hf⟩
  | some b =>
    simp at hz
    subst hz
    refine (addC w0 w l b σ K ht h hσ id hid c hk (by omega)).mono ?_
    rintro e w' ⟨rfl, h2⟩
    exact ⟨rfl, Own.stoK (by omega) h2⟩
theorem ro_4 (h : Own w0 w (RSO p σ K :: l)) (hσ : σ.Ok) (hz : p.isNone = z) (hK : K + 1 < 1000000) (id : Nat) (hid : id < 4294967296) (c : Cp) (hk : c.k < 256) :
    Calls Tryz.prog 16 #[.pointer (pp p), .int .u32 (id : Int), c.ag] w fun e w' => e = .returned (.int .i64 (o4 z σ id c).1) ∧ Own w0 w' (RSO p (o4 z σ id c).2 (K + 2) :: l) := by
  cases p with
  | none =>
    simp at hz
    subst hz
    refine (radd_nil w _ _ _ _ _).mono ?_
    rintro e w' ⟨rfl, hf⟩
    exact ⟨rfl, h.quiet hf⟩
  | some b =>
    simp at hz
    subst hz
    refine (raddS w0 w l b σ K h hσ id hid c hk (by omega)).mono ?_
    rintro e w' ⟨rfl, h2⟩
    exact ⟨rfl, Own.rstoK (by omega) h2⟩
theorem so_5 (h : Own w0 w (StO p σ K :: l)) (hσ : σ.Ok) (hz : p.isNone = z) (hK : K + 1 < 1000000) (ht : Tab w0) (id : Nat) (hid : id < 4294967296) (k : Nat) (hk : k < 256) :
    Calls Tryz.prog 17 #[.pointer (pp p), .int .u32 (id : Int), .int .u8 (k : Int)] w fun e w' => e = .returned (.int .i64 (o5 z σ id k).1) ∧ Own w0 w' (StO p (o5 z σ id k).2 (K + 2) :: l) := by
  cases p with
  | none =>
    simp at hz
    subst hz
    refine (remove_nil w _ _).mono ?_
    rintro e w' ⟨rfl, hf⟩
    exact ⟨rfl, h.quiet hf⟩
  | some b =>
    simp at hz
    subst hz
    refine (removeC w0 w l b σ K ht h hσ id hid k hk (by omega)).mono ?_
    rintro e w' ⟨rfl, h2⟩
    exact ⟨rfl, Own.stoK (by omega) h2⟩
theorem ro_5 (h : Own w0 w (RSO p σ K :: l)) (hσ : σ.Ok) (hz : p.isNone = z) (hK : K + 1 < 1000000) (id : Nat) (hid : id < 4294967296) (k : Nat) (hk : k < 256) :
    Calls Tryz.prog 18 #[.pointer (pp p), .int .u32 (id : Int), .int .u8 (k : Int)] w fun e w' => e = .returned (.int .i64 (o5 z σ id k).1) ∧ Own w0 w' (RSO p (o5 z σ id k).2 (K + 2) :: l) := by
  cases p with
  | none =>
    simp at hz
    subst hz
    refine (rremove_nil w _ _).mono ?_
    rintro e w' ⟨rfl, hf⟩
    exact ⟨rfl, h.quiet hf⟩
  | some b =>
    simp at hz
    subst hz
    refine (rremoveS w0 w l b σ K h hσ id hid k hk (by omega)).mono ?_
    rintro e w' ⟨rfl, h2⟩
    exact ⟨rfl, Own.rstoK (by omega) h2⟩
theorem so_6 (h : Own w0 w (StO p σ K :: l)) (hσ : σ.Ok) (hz : p.isNone = z) (hK : K + 1 < 1000000) (id : Nat) (hid : id < 4294967296) (k : Nat) (hk : k < 256) :
    Calls Tryz.prog 19 #[.pointer (pp p), .int .u32 (id : Int), .int .u8 (k : Int)] w fun e w' => e = .returned (.tuple #[(o6 z σ id k).2.ag, .int .i64 ((o6 z σ id k).1 : Int)]) ∧ Own w0 w' (StO p σ (K + 2) :: l) := by
  cases p with
  | none =>
    simp at hz
    subst hz
    refine (sget_nil w _ _).mono ?_
    rintro e w' ⟨rfl, hf⟩
    exact ⟨rfl, h.quiet hf⟩
  | some b =>
    simp at hz
    subst hz
    refine (sgetA w0 w l b σ K h hσ id hid k hk).mono ?_
    rintro e w' ⟨rfl, h2⟩
    exact ⟨rfl, Own.stoK (by omega) h2⟩
theorem ro_6 (h : Own w0 w (RSO p σ K :: l)) (hσ : σ.Ok) (hz : p.isNone = z) (hK : K + 1 < 1000000) (id : Nat) (hid : id < 4294967296) (k : Nat) (hk : k < 256) :
    Calls Tryz.prog 20 #[.pointer (pp p), .int .u32 (id : Int), .int .u8 (k : Int)] w fun e w' => e = .returned (.tuple #[(o6 z σ id k).2.ag, .int .i64 ((o6 z σ id k).1 : Int)]) ∧ Own w0 w' (RSO p σ (K + 2) :: l) := by
  cases p with
  | none =>
    simp at hz
    subst hz
    refine (rget_nil w _ _).mono ?_
    rintro e w' ⟨rfl, hf⟩
    exact ⟨rfl, h.quiet hf⟩
  | some b =>
    simp at hz
    subst hz
    refine (rgetS w0 w l b σ K h hσ (by omega) id k hk).mono ?_
    rintro e w' ⟨rfl, h2⟩
    exact ⟨rfl, Own.rstoK (by omega) h2⟩
end
theorem pick_mm2 : ∀ (l : List Nat) (m : List Bool) (x : Nat), x ∈ pick l m → ∃ i : Nat, l[i]? = some x ∧ m[i]? = some true
  | [], m, x, h => by simp [pick] at h
  | a :: l, [], x, h => by simp [pick] at h
  | a :: l, u :: m, x, h => by
    unfold pick at h
    split at h
    · rename_i hu
      rcases List.mem_cons.1 h with rfl | h
      · exact ⟨0, rfl, by simp [hu]⟩
      · obtain ⟨i, h1, h2⟩ := pick_mm2 l m x h
        exact ⟨i + 1, by simpa using h1, by simpa using h2⟩
    · obtain ⟨i, h1, h2⟩ := pick_mm2 l m x h
      exact ⟨i + 1, by simpa using h1, by simpa using h2⟩
theorem St.list_iv2 {S : St} (hS : S.Ok) {y : Nat} (h : y ∈ S.list) : S.isLive y = true ∧ y < 4294967296 := by
  obtain ⟨i, h1, h2⟩ := pick_mm2 _ _ _ h
  obtain ⟨a, _, c⟩ := hS.id i y h1
  refine ⟨?_, c⟩
  rw [St.isLive_iff hS, a]
  exact ⟨h2, h1⟩
theorem StO.up {w0 w : World} {l : List Thing} {p : Option Nat} {σ : Sto} {K K' : Nat} (hK : K ≤ K') (h : Own w0 w (StO p σ K :: l)) : Own w0 w (StO p σ K' :: l) := by
  cases p with
  | none => exact h
  | some b => exact Own.stoK hK h
theorem RSO.up {w0 w : World} {l : List Thing} {p : Option Nat} {σ : Sto} {K K' : Nat} (hK : K ≤ K') (h : Own w0 w (RSO p σ K :: l)) : Own w0 w (RSO p σ K' :: l) := by
  cases p with
  | none => exact h
  | some b => exact Own.rstoK hK h
set_option maxHeartbeats 1000000 in
theorem alike_nil (w : World) : Calls Tryz.prog 22 #[.pointer none, .pointer none] w fun e w' => e = .returned (.bool true) ∧ Fr Nobody w w' := by
  go_enter Tryz.func22, Tryz.ntmps22
  go_wp2_with fail
  refine (slen_nil _).mono ?_
  rintro e w1 ⟨rfl, rfl⟩
  go_wp2_with fail
  refine (sroom_nil _).mono ?_
  rintro e w2 ⟨rfl, rfl⟩
  go_wp2_with fail
  refine (sls_nil _).mono ?_
  rintro e w3 ⟨rfl, rfl⟩
  go_wp2_with fail
  refine (sgroups_nil _).mono ?_
  rintro e w4 ⟨rfl, hf⟩
  go_wp2
  go_ret
  exact ⟨rfl, hf⟩
theorem alike_o (w0 w : World) (l : List Thing) (p q : Option Nat) (σ : Sto) (K : Nat) (z : Bool) (h : Own w0 w (StO p σ K :: RSO q σ K :: l)) (hσ : σ.Ok) (hp : p.isNone = z) (hq : q.isNone = z) (hK : K ≤ 1000000) :
    Calls Tryz.prog 22 #[.pointer (pp p), .pointer (pp q)] w fun e w' => e = .returned (.bool true) ∧ Own w0 w' (StO p σ K :: RSO q σ K :: l) := by
  cases p with
  | none =>
    simp at hp
    subst hp
    cases q with
    | none =>
      refine (alike_nil w).mono ?_
      rintro e w' ⟨rfl, hf⟩
      exact ⟨rfl, h.quiet hf⟩
    | some c => simp at hq
  | some b =>
    simp at hp
    subst hp
    cases q with
    | none => simp at hq
    | some c =>
      have h' : Own w0 w (Store b σ K :: RSto c σ K :: l) := h
      obtain ⟨x, hx, h2⟩ := RSto.opn h'.two
      refine (alike11 w0 w l b c σ K K x h2.two hx hσ hK hK (fun id hid => St.list_iv2 hσ.s hid)).mono ?_
      rintro e w' ⟨rfl, h3⟩
      exact ⟨rfl, (RSto.mk hx h3.two).two⟩
theorem snew_o (w0 w : World) (l : List Thing) (n f : Int) (h : Own w0 w l) : ∃ z σ, σ.Ok ∧
    (Calls Tryz.prog 5 #[.int .i64 n, .int .i64 f] w fun e w' => ∃ p : Option Nat, e = .returned (.tuple #[.pointer (pp p), .int .i64 (if z then 1 else 0)]) ∧ p.isNone = z ∧ Own w0 w' (StO p σ 0 :: l)) ∧
    ∀ w' l', Own w0 w' l' → Calls Tryz.prog 6 #[.int .i64 n, .int .i64 f] w' fun e w'' => ∃ q : Option Nat, e = .returned (.tuple #[.pointer (pp q), .int .i64 (if z then 1 else 0)]) ∧ q.isNone = z ∧ Own w0 w'' (RSO q σ 0 :: l') := by
  by_cases hb : n < 1 ∨ 1024 < n ∨ f < 1 ∨ 4194303 < f
  · refine ⟨true, Sto.new 1 1, Sto.new_ok 1 1 (by decide) (by decide) (by decide) (by decide), ?_, ?_⟩
    · refine (snew_no w n f hb).mono ?_
      rintro e w' ⟨rfl, hf⟩
      exact ⟨none, rfl, rfl, Own.fact.2 ⟨trivial, h.quiet hf⟩⟩
    · intro w' l' h'
      refine (rsnew_no w' n f hb).mono ?_
      rintro e w'' ⟨rfl, hf⟩
      exact ⟨none, rfl, rfl, Own.fact.2 ⟨trivial, h'.quiet hf⟩⟩
  · obtain ⟨n', rfl⟩ := Int.eq_ofNat_of_zero_le (show 0 ≤ n by omega)
    obtain ⟨f', rfl⟩ := Int.eq_ofNat_of_zero_le (show 0 ≤ f by omega)
    refine ⟨false, Sto.new n' f', Sto.new_ok n' f' (by omega) (by omega) (by omega) (by omega), ?_, ?_⟩
    · refine (snew w0 w l n' f' h (by omega) (by omega) (by omega) (by omega)).mono ?_
      rintro e w' ⟨b, rfl, h2⟩
      exact ⟨some b, rfl, rfl, h2⟩
    · intro w' l' h'
      refine (rnewS w0 w' l' h' n' f' (by omega) (by omega) (by omega) (by omega)).mono ?_
      rintro e w'' ⟨b, rfl, h2⟩
      exact ⟨some b, rfl, rfl, h2⟩
end Go.Proofs.YtibdgdbkdnifbaaGreatDoor

/-
  Steps of a store's script that come in.
-/
namespace Go.Proofs.YtibdgdbkdnifbaaGreatDoor
open Go.ChangeShapes Go.WideShapes Go.ChangeAt Go.RowKit Go.Deep
set_option linter.unusedVariables false
set_option maxRecDepth 100000

def OpT (W : World) (cs : List Value) (o : Nat × Int × List Cp) : Prop := ∃ ao len cap, cs = [.int .u8 (o.1 : Int), .int .i64 o.2.1, .slice ao len cap] ∧ o.1 < 256 ∧ (-9223372036854775808 ≤ o.2.1 ∧ o.2.1 ≤ 9223372036854775807) ∧ IsComps W ao len cap o.2.2
theorem cellsOp : Tryz.prog.cellsOf 36 = 3 := by kernel_rfl
theorem cellsOB : Tryz.prog.cellsOf 5 = 1 := by kernel_rfl
theorem cellsOU : Tryz.prog.cellsOf 3 = 1 := by kernel_rfl
theorem cellsOC : Tryz.prog.cellsOf 34 = 1 := by kernel_rfl
theorem lst3 {β : Type} {l : List β} (h : l.length = 3) : ∃ a b c, l = [a, b, c] := by
  match l, h with
  | [a, b, c], _ => exact ⟨a, b, c, rfl⟩
theorem op_is {H : Type} {enc : TypeId × Value → H} {W : World} (fuel : Nat) (cs : List Value) (x : DataW H × List MemPlace)
    (h : DataW.trod enc Tryz.prog W 0 (fun _ => true) true fuel 36 cs = some x) : ∃ o, OpT W cs o := by
  obtain ⟨xs, n, _, hx, hl, hlen, hf⟩ := DataW.trod_struct Tryz.underlying36 h
  rw [cellsOp] at hl
  obtain ⟨c0, c1, c2, rfl⟩ := lst3 hl
  obtain ⟨y0, y1, y2, rfl⟩ := lst3 hlen
  have h0 := hf 0 _ rfl
  have h1 := hf 1 _ rfl
  have h2 := hf 2 _ rfl
  simp [cellsOB, cellsOU, cellsOC] at h0 h1 h2
  obtain ⟨a, a0, _, wa⟩ := DataW.trod_int Tryz.underlying5 h0
  obtain ⟨b, b0, _, wb⟩ := DataW.trod_int Tryz.underlying3 h1
  simp at a0 b0
  subst a0 b0
  have ha : 0 ≤ a ∧ a ≤ 255 := by simpa [Lit.wf, IntKind.min, IntKind.max, IntKind.signed, IntKind.bits] using wa
  have hb : -9223372036854775808 ≤ b ∧ b ≤ 9223372036854775807 := by simpa [Lit.wf, IntKind.min, IntKind.max, IntKind.signed, IntKind.bits] using wb
  obtain ⟨an, rfl⟩ := Int.eq_ofNat_of_zero_le ha.1
  obtain ⟨ao, len, cap, hv⟩ : ∃ ao len cap, c2 = .slice ao len cap := by
    rcases open_slice Tryz.underlying34 h2 with ⟨hc, _⟩ | ⟨a, l, c, m, n, D, Pl, hc, _⟩
    · simp at hc; exact ⟨_, _, _, hc⟩
    · simp at hc; exact ⟨_, _, _, hc⟩
  subst hv
  obtain ⟨d, p⟩ := y2
  obtain ⟨Q, hQ⟩ : ∃ Q, IsComps W ao len cap Q := open_rows 4 Tryz.underlying34 cellsComp (by decide) CompIs (fun fuel cs x hx => by
    obtain ⟨k, a, b, c, h1, h2, h3, h4, hcs, _⟩ := comp_cells hx
    obtain ⟨n, rfl, hn⟩ := ok8_nat h1
    exact ⟨⟨n, a, b, c⟩, hcs, hn⟩) ⟨_, h2⟩
  exact ⟨(an, b, Q), ao, len, cap, rfl, by show an < _; omega, hb, hQ⟩
def IsOps (w : World) (ao : Option Addr) (len cap : Nat) (Q : List (Nat × Int × List Cp)) : Prop := Q.length = len ∧ len ≤ cap ∧ cap ≤ maxLen ∧ RowsAt (OpT w) 3 w ao Q
theorem open_ops {H : Type} {enc : TypeId × Value → H} {W : World} {base : Nat} {ao : Option Addr} {len cap : Nat} {d : DataW H} {p : List MemPlace}
    (hv : Value.okWide Tryz.prog W .any base 22 (.slice ao len cap)) (h : DataW.Trod enc Tryz.prog W 0 (fun _ => true) true 22 (.slice ao len cap) d p) : ∃ Q, IsOps W ao len cap Q :=
  open_rows 3 Tryz.underlying22 cellsOp (by decide) (OpT W) (fun fuel cs x hx => op_is fuel cs x hx) h
theorem op_at {W w : World} {ao : Option Addr} {Q : List (Nat × Int × List Cp)} (h : RowsAt (OpT W) 3 w ao Q) (k : Nat) (hk : k < Q.length) : ∃ g o, ao = some ⟨g, o, none⟩ ∧ ∃ (od : Nat) (oi : Int) (a : Option Addr) (len cap : Nat) (M : List Cp), od < 256 ∧ (-9223372036854775808 ≤ oi ∧ oi ≤ 9223372036854775807) ∧ w.cell? ⟨g, o + k * 3, none⟩ = some (.int .u8 (od : Int)) ∧ w.cell? ⟨g, o + k * 3 + 1, none⟩ = some (.int .i64 oi) ∧ w.cell? ⟨g, o + k * 3 + 2, none⟩ = some (.slice a len cap) ∧ M.length = len ∧ len ≤ cap ∧ cap ≤ maxLen ∧ Cs W a M ∧ ∀ q ∈ M, q.k < 256 := by
  obtain ⟨q, hq⟩ : ∃ q, Q[k]? = some q := ⟨_, List.getElem?_eq_getElem hk⟩
  rcases h with h | ⟨g, o, ha, hc⟩
  · subst h; simp at hq
  · obtain ⟨cs, ⟨a, len, cap, rfl, h4, h5, h6⟩, _, h3⟩ := hc k q hq
    exact ⟨g, o, ha, q.1, q.2.1, a, len, cap, q.2.2, h4, h5, h3 0 (by decide), h3 1 (by decide), h3 2 (by decide), h6.1, h6.2.1, h6.2.2.1, h6.cs.1, h6.cs.2⟩
end Go.Proofs.YtibdgdbkdnifbaaGreatDoor
