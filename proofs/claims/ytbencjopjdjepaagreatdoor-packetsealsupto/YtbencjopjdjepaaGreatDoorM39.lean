/-
  What was written of a component behind another one is read again.
-/
import Derived.Test.YtbencjopjdjepaaGreatDoorM14
import Derived.Test.YtbencjopjdjepaaGreatDoorM38
import Derived.Test.YtbencjopjdjepaaGreatDoorM36
import Derived.Test.YtbencjopjdjepaaGreatDoorM26
import Derived.Test.YtbencjopjdjepaaGreatDoorM20
import Derived.Test.YtbencjopjdjepaaGreatDoorM16
import Derived.Test.YtbencjopjdjepaaGreatDoorM25
import Derived.Deep.RegionHeld3
namespace Go.Proofs.YtbencjopjdjepaaGreatDoor
open Go.RowKit
set_option linter.unusedVariables false
set_option maxRecDepth 100000

theorem sbs_split (k : Nat) (F G : Nat → Int) (c j : Nat) (h : j < c) : ∃ R, sbs k F G c = sbs k F G j ++ (sb k F G j ++ R) := by
  induction c with
  | zero => omega
  | succ c ih =>
    by_cases e : j = c
    · subst e; exact ⟨[], by rw [sbs, List.append_nil]⟩
    · obtain ⟨R, hR⟩ := ih (by omega)
      exact ⟨R ++ sb k F G c, by rw [sbs, hR]; simp [List.append_assoc]⟩
theorem gs_back (k : Nat) (F G : Nat → Int) (P : List Nat) (A Z : List Bool) (hP : bitsB P = A ++ (sbs k F G (cnt k) ++ Z)) (hr : ∀ j, j < cnt k → lo k j ≤ G j ∧ G j ≤ hi k j) (j : Nat) (hj : j < cnt k) :
    gs k F P (A.length + ssum k F G j) j = (0, G j, fsz k F G j) := by
  obtain ⟨l0, l1, l2, l3⟩ := rng_ok k j hj
  obtain ⟨R, hR⟩ := sbs_split k F G (cnt k) j hj
  have e : (bitsB P).drop (A.length + ssum k F G j) = sb k F G j ++ (R ++ Z) := by
    rw [hP, hR, ← List.drop_drop, List.drop_left, List.append_assoc, ← length_sbs k F G j, List.drop_left, List.append_assoc]
  have hlen : 8 * P.length = A.length + ssum k F G j + (fsz k F G j + (R ++ Z).length) := by
    have h1 := congrArg List.length e
    rw [List.length_drop, length_bitsB, List.length_append, length_sb] at h1
    have h2 := congrArg List.length hP
    have h3 := congrArg List.length hR
    rw [length_bitsB] at h2
    rw [length_sbs, List.length_append, length_sbs] at h3
    rw [List.length_append, List.length_append, length_sbs] at h2
    have : 1 ≤ fsz k F G j := by unfold fsz; split; omega; split <;> omega
    omega
  generalize R ++ Z = Q at *
  generalize A.length + ssum k F G j = t at *
  have d1 : (bitsB P).drop (t + 1) = (sb k F G j ++ Q).drop 1 := by rw [← List.drop_drop, e]
  have d2 : (bitsB P).drop (t + 1 + 1) = (sb k F G j ++ Q).drop 2 := by rw [Nat.add_assoc, ← List.drop_drop, e]
  have hG := hr j hj
  unfold gs
  have hm : mz F G j = zig (G j - F j) := rfl
  by_cases h0 : mz F G j = 0
  · have hs : sb k F G j = [false] := by unfold sb; rw [if_pos h0]; rfl
    have hz : fsz k F G j = 1 := by unfold fsz; rw [if_pos h0]
    rw [hs] at e
    rw [hz] at hlen ⊢
    have hn : numAt P t 1 = 0 := by rw [numAt_take, e]; rfl
    have hGF : G j = F j := by
      have := zag_zig (G j - F j)
      rw [← hm, h0] at this
      have h2 : zag 0 = 0 := by decide
      omega
    rw [if_neg (by omega), if_pos hn, hGF]
  · by_cases h16 : mz F G j ≤ 16
    · have hs : sb k F G j = [true, true] ++ bitsN 4 (mz F G j - 1) := by unfold sb; rw [if_neg h0, if_pos h16]; rfl
      have hz : fsz k F G j = 6 := by unfold fsz; rw [if_neg h0, if_pos h16]
      rw [hs] at e d1 d2
      rw [hz] at hlen ⊢
      have hn : numAt P t 1 = 1 := by rw [numAt_take, e]; rfl
      have hn1 : numAt P (t + 1) 1 = 1 := by rw [numAt_take, d1]; rfl
      have hn2 : numAt P (t + 1 + 1) 4 = mz F G j - 1 := by
        rw [numAt_take, d2]
        have : ([true, true] ++ bitsN 4 (mz F G j - 1) ++ Q).drop 2 = bitsN 4 (mz F G j - 1) ++ Q := rfl
        rw [this, List.take_append_of_le_length (by rw [length_bitsN]; exact Nat.le_refl _), List.take_of_length_le (by rw [length_bitsN]; exact Nat.le_refl _), num_bitsN, Nat.mod_eq_of_lt (by omega)]
      have hv : F j + zag (mz F G j - 1 + 1) = G j := by
        rw [Nat.sub_add_cancel (by omega), hm, zag_zig]; omega
      rw [if_neg (by omega), if_neg (by omega), if_neg (by omega), if_pos hn1]
      unfold nr
      rw [if_neg (by omega), hn2, hv, if_neg (by omega)]
      rfl
    · have hs : sb k F G j = [true, false] ++ fb k G j := by unfold sb; rw [if_neg h0, if_neg h16]; rfl
      have hz : fsz k F G j = 2 + wd k j := by unfold fsz; rw [if_neg h0, if_neg h16]
      rw [hs] at e d1 d2
      rw [hz] at hlen ⊢
      have hn : numAt P t 1 = 1 := by rw [numAt_take, e]; rfl
      have hn1 : numAt P (t + 1) 1 = 0 := by rw [numAt_take, d1]; rfl
      have hg : gf k P (t + 1 + 1) j = (0, G j, wd k j) := by
        unfold gf
        rw [d2]
        exact gi_back (lo k j) (hi k j) (G j) _ (by omega) (by omega) hG.1 hG.2
      rw [if_neg (by omega), if_neg (by omega), if_neg (by omega), if_neg (by omega)]
      unfold fa
      rw [hg]
      simp only
      rw [if_neg (by simp), if_neg (by rw [← hm]; exact h16)]
theorem srat_back (k : Nat) (F G : Nat → Int) (P : List Nat) (A Z : List Bool) (hP : bitsB P = A ++ (sbs k F G (cnt k) ++ Z)) (hr : ∀ j, j < cnt k → lo k j ≤ G j ∧ G j ≤ hi k j) :
    ∀ j, j ≤ cnt k → rat (fun t j => (gs k F P t j).1) (fun t j => (gs k F P t j).2.2) A.length j = (0, A.length + ssum k F G j) := by
  intro j
  induction j with
  | zero => intro _; rfl
  | succ j ih =>
    intro hj
    have hi' := ih (by omega)
    rw [rat, hi', if_pos rfl]
    have := gs_back k F G P A Z hP hr j (by omega)
    rw [this, ssum, Nat.add_assoc]
theorem step_back (k : Nat) (F G : Nat → Int) (P : List Nat) (A Z : List Bool) (hP : bitsB P = A ++ (sbs k F G (cnt k) ++ Z)) (h1 : chk k F = 0) (h2 : chk k G = 0) :
    scode k F P A.length = 0 ∧ scons k F P A.length = ssum k F G (cnt k) ∧ cmp k (sfld k F P A.length) = cmp k G := by
  obtain ⟨h6, hr, hz⟩ := chk_ok k G h2
  obtain ⟨_, _, hzF⟩ := chk_ok k F h1
  have hr1 := srat_back k F G P A Z hP hr (cnt k) (Nat.le_refl _)
  have g0 : scode k F P A.length = 0 := by unfold scode; rw [if_pos h1, hr1]
  refine ⟨g0, ?_, ?_⟩
  · unfold scons
    rw [if_pos g0, hr1]
    show A.length + ssum k F G (cnt k) - A.length = ssum k F G (cnt k)
    omega
  · have hf : ∀ j, j < 3 → sfld k F P A.length j = G j := by
      intro j hj
      unfold sfld upd
      by_cases hc : j < cnt k
      · rw [if_pos hc, srat_back k F G P A Z hP hr j (by omega)]
        show (gs k F P (A.length + ssum k F G j) j).2.1 = G j
        rw [gs_back k F G P A Z hP hr j hc]
      · rw [if_neg hc, hz j (by omega) hj, hzF j (by omega) hj]
    unfold cmp
    rw [hf 0 (by decide), hf 1 (by decide), hf 2 (by decide)]
end Go.Proofs.YtbencjopjdjepaaGreatDoor


/-
  Readers as things: components whole, and behind others, where the bits are theirs.
-/
namespace Go.Proofs.YtbencjopjdjepaaGreatDoor
open Go.RowKit
set_option linter.unusedVariables false
set_option maxRecDepth 100000

theorem Own.rdLow {w0 w : World} {l : List Thing} {b : Nat} {P : List Nat} {t : Nat} (h : Own w0 w (RdT b P t :: l)) (ht : Tab w0) : b ≠ 1 ∧ t ≤ 8 * P.length := by
  obtain ⟨A, ⟨g, hw, hA⟩, hlo, -⟩ := h.act
  have h1 := hlo b ((hA b).2 (.inl rfl))
  have h2 := ht.size
  exact ⟨by omega, hw.le⟩
theorem split_at {P : List Nat} {t : Nat} {X : List Bool} (ht : t ≤ 8 * P.length) (h : (bitsB P).drop t = X) : bitsB P = (bitsB P).take t ++ X ∧ ((bitsB P).take t).length = t := by
  constructor
  · rw [← h, List.take_append_drop]
  · rw [List.length_take, length_bitsB]; omega
theorem getC_own (w0 w : World) (ht : Tab w0) (l : List Thing) (b : Nat) (P : List Nat) (t : Nat) (q : Cp) (R : List Bool) (h : Own w0 w (RdT b P t :: l)) (hb : (bitsB P).drop t = cpB q ++ R) (h0 : chk q.k (f3 q.a q.b q.c) = 0) :
    Calls Tryz.prog 202 #[.pointer (some ⟨b, 0, none⟩), .int .u8 (q.k : Int)] w fun e w' => e = .returned (.tuple #[.agg #[.int .u8 (q.k : Int), .int .i32 q.a, .int .i32 q.b, .int .i32 q.c], .int .i64 0]) ∧ Own w0 w' (RdT b P (t + (cpB q).length) :: l) := by
  obtain ⟨hb1, htl⟩ := h.rdLow ht
  obtain ⟨g, hR, k⟩ := h.rd
  have hk6 := (chk_ok _ _ h0).1
  obtain ⟨s1, s2⟩ := split_at htl hb
  obtain ⟨g1, g2, g3⟩ := get_back q.k (f3 q.a q.b q.c) P ((bitsB P).take t) R s1 h0
  rw [s2] at g1 g2 g3
  have hc := getC_rd 0 w (ht.quiet h.fr) b hb1 g P t q.k (by omega) hR (cmp q.k (f3 q.a q.b q.c)) (fun _ => g3.symm) (fun h => absurd g1 h)
  rw [g1, g2] at hc
  have hl : (cpB q).length = bitsK q.k := by unfold cpB bitsK; rw [length_cb]
  rw [hl]
  refine hc.mono ?_
  rintro e w' ⟨rfl, hR', hf⟩
  exact ⟨rfl, k w' _ hR' hf⟩
theorem stepC_own (w0 w : World) (ht : Tab w0) (l : List Thing) (b : Nat) (P : List Nat) (t : Nat) (y q : Cp) (R : List Bool) (h : Own w0 w (RdT b P t :: l)) (hyk : y.k = q.k) (hb : (bitsB P).drop t = sbs q.k (f3 y.a y.b y.c) (f3 q.a q.b q.c) (cnt q.k) ++ R) (h1 : chk q.k (f3 y.a y.b y.c) = 0) (h0 : chk q.k (f3 q.a q.b q.c) = 0) :
    Calls Tryz.prog 203 #[.pointer (some ⟨b, 0, none⟩), .agg #[.int .u8 (y.k : Int), .int .i32 y.a, .int .i32 y.b, .int .i32 y.c]] w fun e w' => e = .returned (.tuple #[.agg #[.int .u8 (q.k : Int), .int .i32 q.a, .int .i32 q.b, .int .i32 q.c], .int .i64 0]) ∧ Own w0 w' (RdT b P (t + (sbs q.k (f3 y.a y.b y.c) (f3 q.a q.b q.c) (cnt q.k)).length) :: l) := by
  obtain ⟨hb1, htl⟩ := h.rdLow ht
  obtain ⟨g, hR, k⟩ := h.rd
  have hk6 := (chk_ok _ _ h0).1
  obtain ⟨s1, s2⟩ := split_at htl hb
  obtain ⟨g1, g2, g3⟩ := step_back q.k (f3 y.a y.b y.c) (f3 q.a q.b q.c) P ((bitsB P).take t) R s1 h1 h0
  rw [s2] at g1 g2 g3
  have hc := stepC_rd 0 w (ht.quiet h.fr) b hb1 g P t q.k (by omega) (f3 y.a y.b y.c) hR (cmp q.k (f3 q.a q.b q.c)) (fun _ => g3.symm) (fun h => absurd g1 h)
  rw [g1, g2] at hc
  rw [length_sbs, hyk]
  refine hc.mono ?_
  rintro e w' ⟨rfl, hR', hf⟩
  exact ⟨rfl, k w' _ hR' hf⟩
end Go.Proofs.YtbencjopjdjepaaGreatDoor

/-
  The packet's reader: IDs and masks.
-/
namespace Go.Proofs.YtbencjopjdjepaaGreatDoor
open Go.RowKit
set_option linter.unusedVariables false
set_option maxRecDepth 100000

set_option maxHeartbeats 400000 in
theorem rdmask (w0 w : World) (l : List Thing) (b : Nat) (P : List Nat) (t m : Nat) (R : List Bool) (h : Own w0 w (RdT b P t :: l)) (hm : m < 32) (hb : (bitsB P).drop t = bitsN 5 m ++ R) :
    Calls Tryz.prog 180 #[.agg #[.pointer (some ⟨b, 0, none⟩)]] w fun e w' => e = .returned (.int .u8 (m : Int)) ∧ Own w0 w' (RdT b P (t + 5) :: l) := by
  have hB := h.allocC #[.pointer (some ⟨b, 0, none⟩)] 123
  have q0 := hB.cell 0
  simp at q0
  have H1 : Hid (Calls Tryz.prog 114 #[.agg #[.pointer (some ⟨b, 0, none⟩)], .int .i64 5] _ _) := rdget w0 _ _ b P t 5 m hB.two (by decide) (room_of hb (by decide)) (numAt_of hb (Nat.lt_of_lt_of_le hm (by decide)))
  have m1 : (m : Int) % 256 = (m : Int) := by omega
  clear h hB hb
  go_enter Tryz.func180, Tryz.ntmps180
  go_wp2_with fail
  refine H1.out.mono ?_
  rintro e w1 ⟨rfl, h1⟩
  have H2 : Hid (Own w0 w1 (RdT b P (t + 5) :: l)) := h1.two.tail
  clear h1 H1 q0
  go_wp2
  go_ret
  exact ⟨by first | rfl | simp [m1], H2.out⟩
set_option maxHeartbeats 400000 in
theorem rdid (w0 w : World) (l : List Thing) (b : Nat) (P : List Nat) (t a i : Nat) (R : List Bool) (h : Own w0 w (RdT b P t :: l)) (ha : a < i) (hi : i < 4294967296) (hb : (bitsB P).drop t = idB a i ++ R) :
    Calls Tryz.prog 178 #[.agg #[.pointer (some ⟨b, 0, none⟩)], .int .u32 (a : Int)] w fun e w' => e = .returned (.int .u32 (i : Int)) ∧ Own w0 w' (RdT b P (t + (idB a i).length) :: l) := by
  have hB := h.allocC #[.pointer (some ⟨b, 0, none⟩)] 123
  have q0 := hB.cell 0
  simp at q0
  have hl : (idB a i).length = 5 * grp (i - a - 1) := by unfold idB; exact length_var _
  rw [hl]
  have H1 : Hid (∀ x : Int, x = ((4294967295 - a : Nat) : Int) → Calls Tryz.prog 113 #[.agg #[.pointer (some ⟨b, 0, none⟩)], .int .u64 x] _ _) := fun x hx => by rw [hx]; exact rdbelow w0 _ _ b P t (i - a - 1) (4294967295 - a) R hB.two (by omega) hb (by omega) (by omega)
  have HE : Hid (((a : Int) + ((i - a - 1 : Nat) : Int) + 1) = (i : Int)) := by show _ = _; omega
  obtain ⟨v, hv⟩ : ∃ v, v = i - a - 1 := ⟨_, rfl⟩
  rw [← hv] at H1 HE
  rw [← hv]
  have hiv : (i : Int) = (a : Int) + (v : Int) + 1 := by omega
  clear h hB hb hl hv
  go_enter Tryz.func178, Tryz.ntmps178
  go_wp2_with fail
  refine (H1.out _ (by omega)).mono ?_
  rintro e w1 ⟨rfl, h1⟩
  have H2 : Hid (Own w0 w1 (RdT b P (t + 5 * grp v) :: l)) := h1.two.tail
  clear h1 H1 q0
  go_wp2
  go_ret
  refine ⟨?_, H2.out⟩
  rw [hiv]
  first
    | rfl
    | exact congrArg (fun x => Ending.returned (Value.int .u32 x)) (by omega)
end Go.Proofs.YtbencjopjdjepaaGreatDoor

/-
  The packet's reader: which kinds a mask tells.
-/
namespace Go.Proofs.YtbencjopjdjepaaGreatDoor
open Go.RowKit
set_option linter.unusedVariables false
set_option maxRecDepth 100000

/-- the kinds of a mask below n, rising -/
def kl (m n : Nat) : List Nat := (List.range n).filter (fun j => m / 2 ^ j % 2 == 1)
theorem kl_on {m k : Nat} (h : m / 2 ^ k % 2 = 1) : kl m (k + 1) = kl m k ++ [k] := by
  unfold kl; rw [List.range_succ, List.filter_append]; simp [h]
theorem kl_off {m k : Nat} (h : ¬ m / 2 ^ k % 2 = 1) : kl m (k + 1) = kl m k := by
  unfold kl; rw [List.range_succ, List.filter_append]; simp [h]
theorem kl_len (m n : Nat) : (kl m n).length ≤ n := by
  unfold kl; exact Nat.le_trans (List.length_filter_le _ _) (by simp)
theorem and1_u8 : ∀ x : Fin 256, bits .and .u8 (x.1 : Int) 1 = ((x.1 % 2 : Nat) : Int) := by decide +kernel
theorem val_bit : ∀ (j : Fin 6) (a b c d e f : Bool), val a b c d e f / 2 ^ j.1 % 2 = (nthB a b c d e f j.1).toNat := by decide
theorem nth_hasK (C : List Cp) (k : Nat) (hk : k < 6) : nthB (hasK C 0) (hasK C 1) (hasK C 2) (hasK C 3) (hasK C 4) (hasK C 5) k = hasK C k := by
  have : k = 0 ∨ k = 1 ∨ k = 2 ∨ k = 3 ∨ k = 4 ∨ k = 5 := by omega
  rcases this with rfl | rfl | rfl | rfl | rfl | rfl <;> rfl
theorem msk_bitK (C : List Cp) (k : Nat) (hk : k < 6) : msk C / 2 ^ k % 2 = 1 ↔ hasK C k = true := by
  rw [msk_val, val_bit ⟨k, hk⟩, nth_hasK C k hk]
  cases hasK C k <;> simp
/-- a list of components has just the kinds of its mask -/
theorem kl_kinds {C : List Cp} (hC : Good C) (h5 : hasK C 5 = false) : kl (msk C) 5 = C.map (·.k) := by
  refine up_mem (fun x : Nat => x) ?_ (List.pairwise_map.2 hC.1) (fun x => ?_)
  · unfold kl
    exact List.Pairwise.filter _ List.pairwise_lt_range
  · unfold kl
    rw [List.mem_filter, List.mem_range, List.mem_map]
    constructor
    · rintro ⟨h1, h2⟩
      have h3 := (msk_bitK C x (by omega)).1 (by simpa using h2)
      obtain ⟨y, hy⟩ := hasK_fst h3
      exact ⟨y, fst_some hy⟩
    · rintro ⟨q, hq, rfl⟩
      have h6 := hC.2 q hq
      have hh := mem_hasK hq
      have h7 : q.k ≠ 5 := by
        intro e
        rw [e, h5] at hh
        cases hh
      exact ⟨by omega, by simpa using (msk_bitK C q.k h6).2 hh⟩
set_option maxHeartbeats 2000000 in
theorem kinds_ok (w0 w : World) (l : List Thing) (h : Own w0 w l) (m : Nat) (hm : m < 32) :
    Calls Tryz.prog 201 #[.int .u8 (m : Int)] w fun e w' => ∃ v, e = .returned v ∧ Own w0 w' (Row 5 1 v (kl m 5).length (vrow (kl m 5)) :: l) := by
  obtain ⟨i0, hi, hz0, hz1, hz2⟩ := info_parts Tryz.infoB
  have H0 : Hid (Own w0 w (Row 5 1 (.slice none 0 0) 0 [] :: l)) := h.nilRow _ _
  clear h
  go_enter Tryz.func201, Tryz.ntmps201
  go_wp2
  go_loopw [3, 5] (fun x3 v5 wr => ∃ (k : Nat) (v3 : Value), k ≤ 5 ∧ v5 = .int .u8 (k : Int) ∧ v3 = x3 ∧ Own w0 wr (Row 5 1 v3 (kl m k).length (vrow (kl m k)) :: l)) (fun _ v5 _ => 5 - (intOf v5).toNat)
  case atStart => exact ⟨0, _, Nat.zero_le _, rfl, rfl, H0.out⟩
  case round =>
    obtain ⟨k, v3, hk, rfl, rfl, hO⟩ := hrel
    clear H0
    by_cases hlt : k < 5
    · have hlt' : (k : Int) < 5 := by omega
      have hml : m / 2 ^ k < 256 := Nat.lt_of_le_of_lt (Nat.div_le_self _ _) (by omega)
      have hand : bits .and .u8 ((m : Int) / 2 ^ k) 1 = ((m / 2 ^ k % 2 : Nat) : Int) := by
        have e : ((m : Int) / 2 ^ k) = ((m / 2 ^ k : Nat) : Int) := by simp
        rw [e]
        exact and1_u8 ⟨m / 2 ^ k, hml⟩
      have hkl := kl_len m k
      have HO : Hid (Own w0 wr _) := hO
      clear hO
      by_cases hbit : m / 2 ^ k % 2 = 1
      · have HK : Hid (kl m (k + 1) = kl m k ++ [k]) := kl_on hbit
        rw [hbit] at hand
        have hand2 : bits .and .u8 ((m : Int) / 2 ^ k) 1 = 1 := hand
        clear hand hbit hml
        generalize kl m k = K at *
        go_wp2_with (at_builtin; refine append1_own rfl _ _ 29 rfl 5 i0 (.int .u8 0) 1 1 Tryz.underlying29 hi hz0 hz1 hz2 rfl (by decide) _ _ _ rfl HO.out _ #[.int .u8 (k : Int)] (by simp) rfl rfl (by intro u hu; simp at hu; subst hu; rfl) (by unfold maxLen; omega) (by omega) ?_; intro g6 c6 w6 h6 _; have H6 : Hid (Own w0 w6 _) := h6; clear h6)
        go_roundw
        case rel => exact ⟨k + 1, _, by omega, by go_num, rfl, by rw [HK.out, List.length_append]; simpa [vrow] using H6.out⟩
        case measure => simp [intOf]; omega
      · have HK : Hid (kl m (k + 1) = kl m k) := kl_off hbit
        have h0 : m / 2 ^ k % 2 = 0 := by omega
        rw [h0] at hand
        have hand2 : bits .and .u8 ((m : Int) / 2 ^ k) 1 = 0 := hand
        clear hand hbit hml h0
        go_wp2
        go_roundw
        case rel => exact ⟨k + 1, _, by omega, by go_num, rfl, by rw [HK.out]; exact HO.out⟩
        case measure => simp [intOf]; omega
    · have hk2 : k = 5 := by omega
      subst hk2
      have HO : Hid (Own w0 wr _) := hO
      clear hO
      go_wp2
      go_ret
      exact ⟨v3, rfl, HO.out⟩
end Go.Proofs.YtbencjopjdjepaaGreatDoor

/-
  The packet's reader: components of a mask.
-/
namespace Go.Proofs.YtbencjopjdjepaaGreatDoor
open Go.RowKit
set_option linter.unusedVariables false
set_option maxRecDepth 100000

theorem cpsB_at {C : List Cp} {j : Nat} {q : Cp} (h : C[j]? = some q) : cpsB C = cpsB (C.take j) ++ (cpB q ++ cpsB (C.drop (j + 1))) := by
  have hj := (List.getElem?_eq_some_iff.1 h)
  have e : C = C.take j ++ (q :: C.drop (j + 1)) := by
    have h1 := List.drop_eq_getElem_cons hj.1
    rw [hj.2] at h1
    rw [← h1, List.take_append_drop]
  have e2 : cpsB C = cpsB (C.take j ++ (q :: C.drop (j + 1))) := by rw [← e]
  rw [e2, cpsB_app]
  rfl
theorem un_has5 {C : List Cp} (h : un C = false) : hasK C 5 = false := by
  cases hh : hasK C 5 with
  | false => rfl
  | true =>
    obtain ⟨x, hx⟩ := hasK_fst hh
    have h1 := fst_some hx
    unfold un at h
    rw [List.any_eq_false] at h
    have := h x h1.1
    rw [h1.2, told5] at this
    simp at this
set_option maxHeartbeats 4000000 in
theorem rdcomps (w0 w : World) (ht : Tab w0) (l : List Thing) (b : Nat) (P : List Nat) (t : Nat) (C : List Cp) (R : List Bool) (h : Own w0 w (RdT b P t :: l)) (hC : lst (-1) C = 0) (hu : un C = false) (hb : (bitsB P).drop t = cpsB C ++ R) :
    Calls Tryz.prog 179 #[.agg #[.pointer (some ⟨b, 0, none⟩)], .int .u8 ((msk C : Nat) : Int)] w fun e w' => ∃ ao cap, e = .returned (.slice ao C.length cap) ∧ Own w0 w' (Row 68 4 (.slice ao C.length cap) C.length (ccat C) :: RdT b P (t + (cpsB C).length) :: l) := by
  obtain ⟨ic, hic, hz0, hz1, hz2⟩ := info_parts Tryz.infoComp
  have hg := good_of hC
  have hkk := kl_kinds hg (un_has5 hu)
  have h1 := h.allocC #[.pointer (some ⟨b, 0, none⟩)] 123
  have hk0 := kinds_ok w0 _ _ h1 (msk C) (msk_lt32 hu)
  rw [hkk, List.length_map] at hk0
  have HK : Hid (Calls _ _ _ _ _) := hk0
  have hn : C.length ≤ 5 := by
    have := kl_len (msk C) 5
    rw [hkk, List.length_map] at this
    exact this
  have hls := lst_ok hC
  have HCC : Hid ((∀ q ∈ C, chk q.k (f3 q.a q.b q.c) = 0) ∧ (bitsB P).drop t = cpsB C ++ R) := ⟨fun q hq => (hls.2 q hq).2, hb⟩
  have HTB : Hid (Tab w0) := ht
  have hm32 := msk_lt32 hu
  generalize msk C = mm at *
  clear h h1 hk0 hkk hg hC hu hb hls ht
  go_enter Tryz.func179, Tryz.ntmps179
  go_wp2_with fail
  refine HK.out.mono ?_
  rintro e w1 ⟨vk, rfl, h2⟩
  generalize w.heap.size = bx at *
  obtain ⟨ak, ck, hvk⟩ := row_any h2.row
  subst hvk
  have H2 : Hid (Own w0 w1 (Row 68 4 (.slice none 0 0) 0 [] :: RdT b P t :: Row 5 1 (.slice ak C.length ck) C.length (vrow (C.map (·.k))) :: Cells bx #[.pointer (some ⟨b, 0, none⟩)] 123 :: l)) := (h2.three.nilRow _ _)
  clear h2 HK
  go_wp2
  go_loopw [5, 13] (fun x5 vi wr => ∃ (j : Nat) (ao : Option Addr) (cap : Nat), j ≤ C.length ∧ vi = .int .i64 (j : Int) ∧ x5 = .slice ao j cap ∧ Own w0 wr (Row 68 4 (.slice ao j cap) j (ccat (C.take j)) :: RdT b P (t + (cpsB (C.take j)).length) :: Row 5 1 (.slice ak C.length ck) C.length (vrow (C.map (·.k))) :: Cells bx #[.pointer (some ⟨b, 0, none⟩)] 123 :: l)) (fun _ vi _ => C.length - (intOf vi).toNat)
  case atStart => exact ⟨0, none, 0, Nat.zero_le _, rfl, rfl, H2.out⟩
  case round =>
    obtain ⟨j, ao, cap, hj, rfl, rfl, hO⟩ := hrel
    clear H2
    by_cases hlt : j < C.length
    · obtain ⟨q, hq⟩ : ∃ q, C[j]? = some q := ⟨_, List.getElem?_eq_getElem hlt⟩
      have hlt' : (j : Int) < (C.length : Int) := by omega
      have hrk := hO.three.row
      obtain ⟨gk, ck', hvk, -⟩ := row_shape hrk (by omega)
      cases hvk
      have hkc : wr.cell? ⟨gk, j, none⟩ = some (.int .u8 (q.k : Int)) := by
        rw [hrk.cellAt j (by omega), getElem?_vrow, List.getElem?_map, hq]; rfl
      have hbx := hO.four.cell 0
      simp at hbx
      have hd := drop_next (show (bitsB P).drop t = cpsB (C.take j) ++ (cpB q ++ (cpsB (C.drop (j + 1)) ++ R)) by rw [HCC.out.2, cpsB_at hq]; simp only [List.append_assoc]) rfl
      have hq0 := HCC.out.1 q (List.mem_of_getElem? hq)
      have HG : Hid (Calls _ _ _ _ _) := getC_own w0 wr HTB.out _ b P _ q _ hO.two hd hq0
      have HTK : Hid (t + (cpsB (C.take (j + 1))).length = t + (cpsB (C.take j)).length + (cpB q).length ∧ ccat (C.take (j + 1)) = ccat (C.take j) ++ [.int .u8 (q.k : Int), .int .i32 q.a, .int .i32 q.b, .int .i32 q.c]) := by
        rw [List.take_add_one, hq, cpsB_app, List.length_append]
        refine ⟨by simp [cpsB]; omega, ?_⟩
        unfold ccat cat
        rw [List.flatMap_append]
        simp [Cp.cs]
      have hq8 : q.k < 6 := (chk_ok _ _ hq0).1
      clear hO hrk hd hq0 hq
      obtain ⟨qk, qa, qb, qc⟩ := q
      simp only at hkc HG HTK hq8
      generalize t + (cpsB (C.take j)).length = tj at *
      generalize (cpB ⟨qk, qa, qb, qc⟩).length = cl at *
      generalize ccat (C.take j) = cc at *
      go_wp2_with fail
      refine HG.out.mono ?_
      rintro e w2 ⟨rfl, h3⟩
      have h4 := h3.allocC #[.int .u8 (qk : Int), .int .i32 qa, .int .i32 qb, .int .i32 qc] 68
      have HM : Hid (Calls Tryz.prog 115 #[.int .i64 0] (w2.alloc (.cells #[.int .u8 (qk : Int), .int .i32 qa, .int .i32 qb, .int .i32 qc] 68)) fun e w' => e = .returned (.tuple #[]) ∧ Own w0 w' (Cells w2.heap.size #[.int .u8 (qk : Int), .int .i32 qa, .int .i32 qb, .int .i32 qc] 68 :: RdT b P (tj + cl) :: Row 68 4 (.slice ao j cap) j cc :: Row 5 1 (.slice (some ⟨gk, 0, none⟩) C.length ck) C.length (vrow (C.map (·.k))) :: Cells bx #[.pointer (some ⟨b, 0, none⟩)] 123 :: l)) := by
        refine (must_ok _).mono ?_
        rintro e w' ⟨rfl, rfl⟩
        exact ⟨rfl, h4⟩
      clear h3 h4 HG hbx hkc
      go_wp2_with fail
      refine HM.out.mono ?_
      rintro e w3 ⟨rfl, h5⟩
      generalize w2.heap.size = bq at *
      have u0 := h5.cell 0
      have u1 := h5.cell 1
      have u2 := h5.cell 2
      have u3 := h5.cell 3
      simp at u0 u1 u2 u3
      have H5 : Hid (Own w0 w3 _) := h5.three
      clear h5 HM
      go_wp2_with (at_builtin; refine append1_own rfl _ _ 63 rfl 68 ic _ 4 16 Tryz.underlying63 hic hz0 hz1 hz2 rfl (by decide) _ _ _ rfl H5.out _ #[.int .u8 (qk : Int), .int .i32 qa, .int .i32 qb, .int .i32 qc] (by simp) rfl rfl (by intro u hu; simp at hu; rcases hu with rfl | rfl | rfl | rfl <;> rfl) (by unfold maxLen; omega) (by omega) ?_; intro g6 c6 w6 h6 _; have H6 : Hid (Own w0 w6 _) := h6; clear h6)
      go_roundw
      case rel => exact ⟨j + 1, _, _, by omega, by go_num, rfl, by rw [HTK.out.1, HTK.out.2]; exact H6.out.two.tail⟩
      case measure => simp [intOf]; omega
    · have hj2 : j = C.length := by omega
      subst hj2
      have hlt' : ¬ (C.length : Int) < (C.length : Int) := by omega
      have H6 : Hid (Own w0 wr (Row 68 4 (.slice ao C.length cap) C.length (ccat C) :: RdT b P (t + (cpsB C).length) :: l)) := by
        have := hO
        rw [List.take_of_length_le (Nat.le_refl _)] at this
        exact this.three.tail.three.tail
      clear hO
      go_wp2
      go_ret
      exact ⟨ao, cap, rfl, H6.out⟩
end Go.Proofs.YtbencjopjdjepaaGreatDoor

/-
  The packet's reader: lists of entities.
-/
namespace Go.Proofs.YtbencjopjdjepaaGreatDoor
open Go.RowKit
set_option linter.unusedVariables false
set_option maxRecDepth 100000

theorem entsB_app (a : Nat) (X Y : List En) : entsB a (X ++ Y) = entsB a X ++ entsB (lastI a (X.map (·.1))) Y := by
  induction X generalizing a with
  | nil => rfl
  | cons x t ih => simp [entsB, lastI, ih x.1]
theorem entsB_at {N : List En} {j : Nat} {x : En} (h : N[j]? = some x) : entsB 0 N = entsB 0 (N.take j) ++ (entB (lastI 0 ((N.take j).map (·.1))) x ++ entsB x.1 (N.drop (j + 1))) := by
  have hj := (List.getElem?_eq_some_iff.1 h)
  have e : N = N.take j ++ (x :: N.drop (j + 1)) := by
    have h1 := List.drop_eq_getElem_cons hj.1
    rw [hj.2] at h1
    rw [← h1, List.take_append_drop]
  have e2 : entsB 0 N = entsB 0 (N.take j ++ (x :: N.drop (j + 1))) := by rw [← e]
  rw [e2, entsB_app]
  rfl
set_option maxHeartbeats 8000000 in
theorem rdents (w0 w : World) (ht : Tab w0) (l : List Thing) (b : Nat) (P : List Nat) (t : Nat) (N : List En) (R : List Bool) (h : Own w0 w (RdT b P t :: l)) (hup : N.Pairwise (fun a b => a.1 < b.1)) (hok : ∀ x ∈ N, 1024 ≤ x.1 ∧ lst (-1) x.2 = 0 ∧ un x.2 = false) (hid : ∀ x ∈ N, x.1 < 4294967296) (hn : N.length ≤ 10000) (hb : (bitsB P).drop t = var N.length ++ (entsB 0 N ++ R)) :
    Calls Tryz.prog 151 #[.agg #[.pointer (some ⟨b, 0, none⟩)]] w fun e w' => ∃ ao cap, e = .returned (.slice ao N.length cap) ∧ ∃ M : List EnE, M.length = N.length ∧ evs M = N ∧ Own w0 w' (EntsT ao cap M :: RdT b P (t + (var N.length).length + (entsB 0 N).length) :: l) := by
  obtain ⟨i0, hi, hz0, hz1, hz2⟩ := info3w Tryz.infoEnt
  have h1 := h.allocC #[.pointer (some ⟨b, 0, none⟩)] 123
  have q0 := h1.cell 0
  simp at q0
  have hv := rdgetVar w0 _ _ b P t N.length _ h1.two (by omega) hb
  rw [← length_var] at hv
  have H1 : Hid (Calls _ _ _ _ _) := hv
  have hbn := drop_next hb rfl
  have HN : Hid (N.Pairwise (fun a b => a.1 < b.1) ∧ (∀ x ∈ N, 1024 ≤ x.1 ∧ lst (-1) x.2 = 0 ∧ un x.2 = false) ∧ (∀ x ∈ N, x.1 < 4294967296) ∧ (bitsB P).drop (t + (var N.length).length) = entsB 0 N ++ R) := ⟨hup, hok, hid, hbn⟩
  have HTB : Hid (Tab w0) := ht
  clear h h1 hv hb hbn hup hok hid ht
  generalize t + (var N.length).length = tn at *
  go_enter Tryz.func151, Tryz.ntmps151
  go_wp2_with fail
  refine H1.out.mono ?_
  rintro e w1 ⟨rfl, h2⟩
  generalize w.heap.size = bx at *
  have H2 : Hid (Own w0 w1 (RdT b P tn :: Row 65 2 (.slice none 0 0) 0 [] :: (Cells bx #[.pointer (some ⟨b, 0, none⟩)] 123 :: l))) := (h2.nilRow _ _).two
  clear h2 H1 q0
  go_wp2
  go_loopw [3, 4, 7] (fun x3 v4 v7 wr => ∃ (j : Nat) (M : List EnE) (ao : Option Addr) (cap : Nat), j ≤ N.length ∧ v7 = .int .u64 (j : Int) ∧ v4 = .int .u32 ((lastI 0 ((N.take j).map (·.1)) : Nat) : Int) ∧ x3 = .slice ao j cap ∧ M.length = j ∧ evs M = N.take j ∧ Own w0 wr (RdT b P (tn + (entsB 0 (N.take j)).length) :: Row 65 2 (.slice ao j cap) j (cat EnE.cs M) :: (M.map erow ++ (Cells bx #[.pointer (some ⟨b, 0, none⟩)] 123 :: l)))) (fun _ _ v7 _ => N.length - (intOf v7).toNat)
  case atStart => exact ⟨0, [], none, 0, Nat.zero_le _, rfl, rfl, rfl, rfl, rfl, H2.out⟩
  case round =>
    obtain ⟨j, M, ao, cap, hj, rfl, rfl, rfl, hMl, hM, hO⟩ := hrel
    have HM : Hid (M.length = j ∧ evs M = N.take j) := ⟨hMl, hM⟩
    clear H2 hMl hM
    by_cases hlt : j < N.length
    · obtain ⟨x, hx⟩ : ∃ x, N[j]? = some x := ⟨_, List.getElem?_eq_getElem hlt⟩
      have hlt' : (j : Int) < (N.length : Int) := by omega
      have hxm := List.mem_of_getElem? hx
      have htk : N.take (j + 1) = N.take j ++ [x] := by rw [List.take_add_one, hx]; rfl
      have hil := HN.out.2.2.1 x hxm
      have hokx := HN.out.2.1 x hxm
      have hla : lastI 0 ((N.take j).map (·.1)) < x.1 := by
        have hP : ((N.take (j + 1)).map (·.1)).Pairwise (· < ·) := List.pairwise_map.2 (HN.out.1.sublist (List.take_sublist _ _))
        rw [htk, List.map_append] at hP
        refine lastI_lt hP (fun y hy => ?_)
        have hy2 : y ∈ (N.take (j + 1)).map (·.1) := by rw [htk, List.map_append]; exact hy
        obtain ⟨z, hz, rfl⟩ := List.mem_map.1 hy2
        have := (HN.out.2.1 z (List.mem_of_mem_take hz)).1
        omega
      have hd0 := drop_next (show (bitsB P).drop tn = entsB 0 (N.take j) ++ (idB (lastI 0 ((N.take j).map (·.1))) x.1 ++ (bitsN 5 (msk x.2) ++ (cpsB x.2 ++ (entsB x.1 (N.drop (j + 1)) ++ R)))) by rw [HN.out.2.2.2, entsB_at hx]; unfold entB; simp only [List.append_assoc]) rfl
      have hd1 := drop_next hd0 rfl
      have hd2 := drop_next hd1 (length_bitsN _ _)
      have hbx : wr.cell? ⟨bx, 0, none⟩ = some (.pointer (some ⟨b, 0, none⟩)) := by
        have := (hO.tail.tail.dropA).cell 0
        simpa using this
      have HP : Hid (Calls _ _ _ _ _) := rdid w0 wr _ b P _ (lastI 0 ((N.take j).map (·.1))) x.1 _ hO hla hil hd0
      obtain ⟨LL, hLL⟩ : ∃ LL, LL = (Row 65 2 (.slice ao j cap) j (cat EnE.cs M) :: (M.map erow ++ (Cells bx #[.pointer (some ⟨b, 0, none⟩)] 123 :: l)) : List Thing) := ⟨_, rfl⟩
      rw [← hLL] at HP
      have HBX : Hid (∀ Z X, Own w0 Z (X ++ LL) → Z.cell? ⟨bx, 0, none⟩ = some (.pointer (some ⟨b, 0, none⟩))) := fun Z X hZ => by
        rw [hLL] at hZ
        have := (hZ.dropA.tail.dropA).cell 0
        simpa using this
      obtain ⟨t1, ht1⟩ : ∃ t1, t1 = tn + (entsB 0 (N.take j)).length + (idB (lastI 0 ((N.take j).map (·.1))) x.1).length := ⟨_, rfl⟩
      rw [← ht1] at HP hd1 hd2
      have HMK : Hid (∀ Z, Own w0 Z (RdT b P t1 :: LL) → Calls Tryz.prog 180 #[.agg #[.pointer (some ⟨b, 0, none⟩)]] Z fun e w' => e = .returned (.int .u8 ((msk x.2 : Nat) : Int)) ∧ Own w0 w' (RdT b P (t1 + 5) :: LL)) := fun Z hZ => rdmask w0 Z LL b P t1 (msk x.2) _ hZ (msk_lt32 hokx.2.2) hd1
      have HCP : Hid (∀ Z, Own w0 Z (RdT b P (t1 + 5) :: LL) → Calls Tryz.prog 179 #[.agg #[.pointer (some ⟨b, 0, none⟩)], .int .u8 ((msk x.2 : Nat) : Int)] Z fun e w' => ∃ ao cap, e = .returned (.slice ao x.2.length cap) ∧ Own w0 w' (Row 68 4 (.slice ao x.2.length cap) x.2.length (ccat x.2) :: RdT b P (t1 + 5 + (cpsB x.2).length) :: LL)) := fun Z hZ => rdcomps w0 Z HTB.out LL b P (t1 + 5) x.2 _ hZ hokx.2.1 hokx.2.2 hd2
      have HTK : Hid (tn + (entsB 0 (N.take (j + 1))).length = t1 + 5 + (cpsB x.2).length ∧ lastI 0 ((N.take (j + 1)).map (·.1)) = x.1) := by
        rw [htk, entsB_app, List.map_append, ht1, List.length_append]
        refine ⟨?_, lastI_snoc _ _ _⟩
        simp only [entsB, entB, List.append_nil, List.length_append, length_bitsN]
        omega
      have HM2 : Hid (∀ a c, evs (M ++ [EnE.mk x.1 a c x.2]) = N.take (j + 1)) := fun a c => by
        have e := HM.out.2
        unfold evs at e ⊢
        rw [List.map_append, e, htk]
        rfl
      have HLL : Hid (LL = (Row 65 2 (.slice ao j cap) j (cat EnE.cs M) :: (M.map erow ++ (Cells bx #[.pointer (some ⟨b, 0, none⟩)] 123 :: l)) : List Thing)) := hLL
      have hml := msk_lt32 hokx.2.2
      have hc5 : x.2.length ≤ 5 := by
        have := kl_len (msk x.2) 5
        rw [kl_kinds (good_of hokx.2.1) (un_has5 hokx.2.2), List.length_map] at this
        exact this
      obtain ⟨la, hlaE⟩ : ∃ la, la = lastI 0 ((N.take j).map (·.1)) := ⟨_, rfl⟩
      rw [← hlaE] at HP
      rw [← hlaE]
      clear hO hla hlaE htk hd0 hd1 hd2 hx hxm hLL ht1 hokx
      obtain ⟨xi, xC⟩ := x
      simp only at hil HP HMK HCP HTK HM2 hml hc5
      generalize msk xC = mm at *
      obtain ⟨cl, hcl⟩ : ∃ cl, cl = xC.length := ⟨_, rfl⟩
      rw [← hcl] at HCP hc5
      have HCL : Hid (xC.length = cl) := hcl.symm
      clear hcl
      go_wp2_with fail
      refine HP.out.mono ?_
      rintro e w2 ⟨rfl, h3⟩
      have O3 := h3.drew
      have b3 := HBX.out w2 [_] h3
      clear h3 HP hbx
      go_wp2
      go_region_held3 (fun w' => w'.cell? ⟨bx, 0, none⟩ = some (.pointer (some ⟨b, 0, none⟩))) (go_keep)
        (first
          | (go_at_call 180; with_reducible refine (HMK.out _ O3).mono ?_; rintro e w4 ⟨rfl, O4⟩
             have b4 := HBX.out w4 [_] O4)
          | (go_at_call 179; with_reducible refine (HCP.out _ O4).mono ?_; rintro e w5 ⟨a5, c5, rfl, O5⟩
             have b5 := HBX.out w5 [_, _] O5
             have h5p : Own w0 w5 (Row 65 2 (.slice ao j cap) j (cat EnE.cs M) :: Row 68 4 (.slice a5 cl c5) cl (ccat xC) :: RdT b P (t1 + 5 + (cpsB xC).length) :: (M.map erow ++ (Cells bx #[.pointer (some ⟨b, 0, none⟩)] 123 :: l))) := by
               have := O5
               rw [HLL.out] at this
               exact Own.three this
             have h5b := h5p.alloc (.cells #[.int .u32 (xi : Int), .slice a5 cl c5] 65)
             have h5c := (h5p.litRow #[.int .u32 (xi : Int), .slice a5 cl c5] 65 2 1 (by decide) rfl).row
             have b6 : (w5.alloc (.cells #[.int .u32 (xi : Int), .slice a5 cl c5] 65)).cell? ⟨bx, 0, none⟩ = some (.pointer (some ⟨b, 0, none⟩)) := Lib.cell?_alloc_some _ b5
             have H5 : Hid (Own w0 _ _) := h5b
             have H5C : Hid (World.ownsRow _ _ _ _ _ _ _) := h5c
             clear h5p h5b h5c)
          | (refine step_allW rfl _ _ 25 rfl 65 i0 (.agg #[.int .u32 0, .slice none 0 0]) 2 32 Tryz.underlying25 hi hz0 hz1 hz2 rfl (by decide) _ _ _ rfl _ _ _ _ rfl H5.out H5C.out (by intro u hu; simp at hu; rcases hu with rfl | rfl <;> rfl) (by unfold maxLen; omega) (by omega) ?_
             intro g6 c6 w6 hO6
             have b7 : w6.cell? ⟨bx, 0, none⟩ = some (.pointer (some ⟨b, 0, none⟩)) := by
               have := (hO6.tail.tail.tail.dropA).cell 0
               simpa using this
             have H6 : Hid (Own w0 w6 _) := hO6
             clear hO6))
      have H7 : Hid (Own w0 w6 (RdT b P (tn + (entsB 0 (N.take (j + 1))).length) :: Row 65 2 (.slice g6 (j + 1) c6) (j + 1) (cat EnE.cs (M ++ [EnE.mk xi a5 c5 xC])) :: ((M ++ [EnE.mk xi a5 c5 xC]).map erow ++ (Cells bx #[.pointer (some ⟨b, 0, none⟩)] 123 :: l)))) := by
        have e1 : cat EnE.cs (M ++ [EnE.mk xi a5 c5 xC]) = cat EnE.cs M ++ [.int .u32 (xi : Int), .slice a5 cl c5] := by
          rw [cat_append]
          congr 1
          simp [cat, EnE.cs, HCL.out]
        have e2 : (M ++ [EnE.mk xi a5 c5 xC]).map erow ++ (Cells bx #[.pointer (some ⟨b, 0, none⟩)] 123 :: l) = M.map erow ++ (Row 68 4 (.slice a5 cl c5) cl (ccat xC) :: Cells bx #[.pointer (some ⟨b, 0, none⟩)] 123 :: l) := by
          simp [erow, HCL.out]
        show Own _ _ _
        rw [e1, e2, HTK.out.1]
        have h8 := H6.out.three
        exact h8.perm (List.Perm.cons _ (List.Perm.cons _ List.perm_middle.symm))
      clear H6 H5 H5C HMK HCP HBX O3 O4 O5 b3 b4 b5 b6 b7
      go_wp2
      go_roundw
      case rel => exact ⟨j + 1, M ++ [EnE.mk xi a5 c5 xC], g6, c6, by omega, by go_num, by rw [HTK.out.2], rfl, by rw [List.length_append, HM.out.1]; rfl, HM2.out a5 c5, H7.out⟩
      case measure => simp [intOf]; omega
    · have hj2 : j = N.length := by omega
      subst hj2
      have hlt' : ¬ (N.length : Int) < (N.length : Int) := by omega
      have HF : Hid (evs M = N) := by
        have := HM.out.2
        rw [List.take_of_length_le (Nat.le_refl _)] at this
        exact this
      have HE : Hid (Own w0 wr (EntsT ao cap M :: RdT b P (tn + (entsB 0 N).length) :: l)) := by
        have h1 := hO
        rw [List.take_of_length_le (Nat.le_refl _)] at h1
        have h2 := h1.two
        rw [← HM.out.1] at h2
        have h3 := (h2.perm ((List.perm_middle.cons _).cons _)).three.tail
        exact Own.ents (h3.perm (List.Perm.cons _ List.perm_middle.symm))
      clear hO
      go_wp2
      go_ret
      exact ⟨ao, cap, rfl, M, HM.out.1, HF.out, HE.out⟩
end Go.Proofs.YtbencjopjdjepaaGreatDoor

