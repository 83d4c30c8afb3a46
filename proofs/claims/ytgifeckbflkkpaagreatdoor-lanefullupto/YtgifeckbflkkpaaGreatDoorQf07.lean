/- The document's side of layer 1: lists of bits in memory, and Put on them. -/
import Derived.Test.YtgifeckbflkkpaaGreatDoorQf04
import Derived.Test.YtgifeckbflkkpaaGreatDoorQf05
import Derived.Test.YtgifeckbflkkpaaGreatDoorQf06
import Derived.Deep.RegionWith
namespace Go.Proofs.YtgifeckbflkkpaaGreatDoor
open Go.RowKit
set_option linter.unusedVariables false
set_option maxHeartbeats 1000000
set_option maxRecDepth 100000
def Bs (w : World) (v : Value) (L : List Bool) : Prop :=
 (v = .slice none 0 0 ∧ L = []) ∨ ∃ g o cap cur,v = .slice (some ⟨g,o,none⟩) L.length cap ∧ L.length ≤ cap ∧ w.heap[g]? = some (.cells cur 4 (0,0)) ∧ ∀ j u,(brow L)[j]? = some u → cur[o + j]? = some u
theorem Bs.src {w : World} {v : Value} {L : List Bool} (h : Bs w v L) : Src w v L.length (brow L) := by
 rcases h with ⟨rfl,rfl⟩ | ⟨g,o,cap,cur,rfl,_,hg,hc⟩
 ·left; exact ⟨rfl,rfl,rfl⟩
 ·right
  refine ⟨_,_,rfl,length_brow L,fun j u hu => ?_⟩
  rw [addr_add,cell_of_row w g _ cur 4 (0,0) hg]
  exact hc j u hu
theorem Bs.of_row {w : World} {v : Value} {L : List Bool} (h : w.ownsRow 0 4 1 v L.length (brow L)) : Bs w v L := by
 rcases h.2 with ⟨rfl,h0⟩ | ⟨g,cap,cur,rfl,_,hg,hn,_,hs,ht⟩
 ·left; exact ⟨rfl,List.eq_nil_of_length_eq_zero h0⟩
 ·right
  refine ⟨g,0,cap,cur,rfl,hn,hg,fun j u hu => ?_⟩
  rw [← ht,List.getElem?_take] at hu
  split at hu
  ·simpa using hu
  ·cases hu
theorem Bs.keep {S : Nat → Prop} {w w' : World} {v : Value} {L : List Bool} (h : Bs w v L) (hf : Fr S w w') (hs : ∀ k cur,w.heap[k]? = some (.cells cur 4 (0,0)) → ¬ S k) : Bs w' v L := by
 rcases h with hn | ⟨g,o,cap,cur,rfl,hn,hg,hc⟩
 ·exact .inl hn
 ·refine .inr ⟨g,o,cap,cur,rfl,hn,?_,hc⟩
  rw [hf.block g (Array.getElem?_eq_some_iff.1 hg).1 (hs g cur hg)]
  exact hg
theorem Bs.quiet {w w' : World} {v : Value} {L : List Bool} (h : Bs w v L) (hf : Fr Nobody w w') : Bs w' v L := h.keep hf (fun _ _ _ => id)
theorem Wr.apart {B : Nat} {w : World} {b : Nat} {g : Option Nat} {M : List Bool} (h : Wr B w b g M) : ∀ k cur,w.heap[k]? = some (.cells cur 4 (0,0)) → ¬ At b g k := by
 obtain ⟨v,hb,ho,hv⟩ := h.obj
 rintro k cur hk (e | e)
 ·subst e; rw [hb] at hk; simp at hk
 ·rcases ho.2 with ⟨rfl,_⟩ | ⟨g',cap,cur',rfl,_,hg,_⟩
  ·rw [← hv] at e; simp [Value.ownBlock] at e
  ·rw [← hv] at e
   simp [Value.ownBlock] at e
   subst e
   rw [hg] at hk; simp at hk
theorem Rd.apart {B : Nat} {w : World} {b : Nat} {g : Option Nat} {P : List Nat} {t : Nat} (h : Rd B w b g P t) : ∀ k cur,w.heap[k]? = some (.cells cur 4 (0,0)) → ¬ At b g k := by
 obtain ⟨v,hb,ho,hv⟩ := h.obj
 rintro k cur hk (e | e)
 ·subst e; rw [hb] at hk; simp at hk
 ·rcases ho.2 with ⟨rfl,_⟩ | ⟨g',cap,cur',rfl,_,hg,_⟩
  ·rw [← hv] at e; simp [Value.ownBlock] at e
  ·rw [← hv] at e
   simp [Value.ownBlock] at e
   subst e
   rw [hg] at hk; simp at hk
def Bo (B : Nat) (w : World) (v : Value) (L : List Bool) : Prop := w.ownsRow B 4 1 v L.length (brow L)
theorem row_low {w : World} {B B' : Nat} {e : TypeId} {size n : Nat} {v : Value} {xs : List Value} (h : w.ownsRow B e size v n xs) (hB : B' ≤ B) : w.ownsRow B' e size v n xs := by
 refine ⟨h.1,?_⟩
 rcases h.2 with hn | ⟨g,cap,cur,rfl,hb,rest⟩
 ·exact .inl hn
 ·exact .inr ⟨g,cap,cur,rfl,Nat.le_trans hB hb,rest⟩
theorem Bo.low {B B' : Nat} {w : World} {v : Value} {L : List Bool} (h : Bo B w v L) (hB : B' ≤ B) : Bo B' w v L := row_low h hB
theorem Bo.bs {B : Nat} {w : World} {v : Value} {L : List Bool} (h : Bo B w v L) : Bs w v L := Bs.of_row (row_low h (Nat.zero_le _))
theorem Bo.keep {S : Nat → Prop} {B : Nat} {w w' : World} {v : Value} {L : List Bool} (h : Bo B w v L) (hf : Fr S w w') (hs : ∀ k cur,w.heap[k]? = some (.cells cur 4 (0,0)) → ¬ S k) : Bo B w' v L := by
 refine hf.row h (fun k hk => ?_)
 rcases h.2 with ⟨rfl,_⟩ | ⟨g,cap,cur,rfl,_,hg,_⟩
 ·simp [Value.ownBlock] at hk
 ·simp [Value.ownBlock] at hk
  subst hk
  exact hs _ cur hg
theorem Bo.quiet {B : Nat} {w w' : World} {v : Value} {L : List Bool} (h : Bo B w v L) (hf : Fr Nobody w w') : Bo B w' v L := h.keep hf (fun _ _ _ => id)
theorem Bo.nil (B : Nat) (w : World) : Bo B w (.slice none 0 0) [] := World.ownsRow_nil _ _ _ _
theorem half_pow (x k : Nat) : x / 2 ^ k / 2 = x / 2 ^ (k + 1) := by rw [Nat.div_div_eq_div_mul,← Nat.pow_succ]
def grpAt (v n i : Nat) : Nat := v / 2 ^ (4 * i) % 16 + (if i + 1 < n then 16 else 0)
def varTo (v n : Nat) : Nat → List Bool
 | 0 => []
 | k + 1 => varTo v n k ++ bitsN 5 (grpAt v n k)
def var (v : Nat) : List Bool := varTo v (grp v) (grp v)
theorem length_varTo (v n k : Nat) : (varTo v n k).length = 5 * k := by
 induction k with
 | zero => rfl
 | succ k ih => rw [varTo,List.length_append,ih,length_bitsN]; omega
theorem length_var (v : Nat) : (var v).length = 5 * grp v := length_varTo _ _ _
theorem grp_bd (v : Nat) (hv : v < 18446744073709551616) : 1 ≤ grp v ∧ grp v ≤ 16 := by
 have := bitLen_64 v hv
 unfold grp; omega
theorem grpAt_lt (v n i : Nat) : grpAt v n i < 32 := by unfold grpAt; split <;> omega
theorem part_val (v k : Nat) : ((v : Int) / 2 ^ (4 * k)).tmod 16 = ((v / 2 ^ (4 * k) % 16 : Nat) : Int) := by
 have h2 : ((v : Int) / 2 ^ (4 * k)) = ((v / 2 ^ (4 * k) : Nat) : Int) := by simp
 rw [h2,Int.tmod_eq_emod_of_nonneg (Int.natCast_nonneg _)]
 omega
theorem more_val (v k : Nat) : IntKind.u64.wrap (((v : Int) / 2 ^ (4 * k)).tmod 16 + 16) = ((v / 2 ^ (4 * k) % 16 + 16 : Nat) : Int) := by
 rw [part_val,wrapU]
 have := Nat.mod_lt (v / 2 ^ (4 * k)) (show 0 < 16 by decide)
 omega
def IsRow (k : IntKind) (w : World) (a : Option Addr) (len cap : Nat) (zs : List Int) : Prop :=
 (a = none ∧ len = 0 ∧ cap = 0 ∧ zs = []) ∨
 ∃ x,a = some x ∧ len ≤ cap ∧ cap ≤ maxLen ∧ zs.length = cap ∧ (∀ i,i < zs.length → w.cell? (x.add i) = some (.int k (zs.getD i 0))) ∧ ∀ n ∈ zs,(Lit.int k n).wf = true
def Ints (k : IntKind) (w : World) (ao : Option Addr) (P : List Int) : Prop :=
 P = [] ∨ ∃ g o,ao = some ⟨g,o,none⟩ ∧ ∀ j x,P[j]? = some x → w.cell? ⟨g,o + j,none⟩ = some (.int k x)
theorem Ints.quiet {k : IntKind} {w w' : World} {ao : Option Addr} {P : List Int} (h : Ints k w ao P) (hf : Fr Nobody w w') : Ints k w' ao P := by
 rcases h with h | ⟨g,o,ha,hc⟩
 ·exact .inl h
 ·refine .inr ⟨g,o,ha,fun j x hx => ?_⟩
  have h1 := hc j x hx
  exact (hf.cell (p := ⟨g,o + j,none⟩) (World.block_lt_of_cell? w _ h1) id).trans h1
def Both (w0 w : World) (b : Nat) (v : Value) (L : List Bool) : Prop := Ow w0 w b L ∧ Bo w0.heap.size w v L
theorem Ow.apart {w0 w : World} {b : Nat} {M : List Bool} (h : Ow w0 w b M) : ∃ g,Wr w0.heap.size w b g M ∧ ∀ k cur,w.heap[k]? = some (.cells cur 4 (0,0)) → ¬ At b g k := by
 obtain ⟨g,hW,_⟩ := h
 exact ⟨g,hW,hW.apart⟩
theorem Both.fr {w0 w : World} {b : Nat} {v : Value} {L : List Bool} (h : Both w0 w b v L) : Fr Nobody w0 w := h.1.fr
theorem lt_bitLen (x : Nat) (h : x < 18446744073709551616) : x < 2 ^ Lib.bitLen x := by
 induction x using Nat.strongRecOn with
 | ind x ih =>
  by_cases h0 : x = 0
  ·subst h0; exact Nat.two_pow_pos _
  ·rw [Lib.bitLen_half x h0 h,Nat.add_comm,Nat.pow_succ]
   have := ih (x / 2) (by omega) (by omega)
   omega
theorem wid_le (lo hi : Int) (h0 : -9223372036854775808 ≤ lo) (h1 : hi ≤ 9223372036854775807) : wid lo hi ≤ 64 := by
 unfold wid
 split
 ·omega
 ·exact bitLen_64 _ (by omega)
theorem in_lt (n lo hi : Int) (h0 : -9223372036854775808 ≤ lo) (h1 : hi ≤ 9223372036854775807) (ha : lo ≤ n) (hb : n ≤ hi) : (n - lo).toNat < 2 ^ wid lo hi := by
 unfold wid
 rw [if_neg (by omega)]
 have := lt_bitLen (hi - lo).toNat (by omega)
 omega
theorem bitLen0 : Lib.bitLen 0 = 0 := by decide +kernel
theorem rwidth_any (lo hi : Int) (w : World) (h0 : -9223372036854775808 ≤ lo) (h1 : hi ≤ 9223372036854775807) (h2 : lo ≤ 9223372036854775807) (h3 : -9223372036854775808 ≤ hi) :
  Calls Tryz.prog 136 #[.int .i64 lo,.int .i64 hi] w fun e w' => e = .returned (.int .i64 (wid lo hi : Nat)) ∧ w' = w := by
 by_cases h : hi < lo
 ·have e0 : wid lo hi = 0 := by unfold wid; rw [if_pos h]
  rw [e0]
  go_enter Tryz.func136,Tryz.ntmps136
  go_wp2
  go_ret
  exact ⟨rfl,rfl⟩
 ·have e0 : wid lo hi = Lib.bitLen (hi - lo).toNat := by unfold wid; rw [if_neg h]
  obtain ⟨d,hd⟩ : ∃ d : Nat,d = (hi - lo).toNat := ⟨_,rfl⟩
  rw [e0,← hd]
  have hd2 : d < 18446744073709551616 := by omega
  have hq : IntKind.u64.wrap (IntKind.u64.wrap hi - IntKind.u64.wrap lo) = (d : Int) := by simp only [wrapU]; omega
  have hb := bitLen_64 d hd2
  clear e0 hd
  generalize hl : Lib.bitLen d = l at *
  have HL : Hid (Lib.bitLen d = l) := hl
  clear hl
  go_enter Tryz.func136,Tryz.ntmps136
  go_wp2
  clear hq
  go_loopw [5,6] (fun c xv wr => ∃ k y : Nat,c = .int .i64 k ∧ xv = .int .u64 y ∧ k + Lib.bitLen y = l ∧ y < 18446744073709551616 ∧ wr = w) (fun _ xv _ => (intOf xv).toNat)
  case atStart => exact ⟨0,d,rfl,rfl,by rw [HL.out]; omega,hd2,rfl⟩
  case round =>
   obtain ⟨k,y,rfl,rfl,hy,hy2,rfl⟩ := hrel
   have HY : Hid (k + Lib.bitLen y = l) := hy
   have hkl : k ≤ l := by omega
   clear hy
   by_cases hpos : 0 < y
   ·have HY2 : Hid (k + 1 + Lib.bitLen (y / 2) = l) := by
     have := Lib.bitLen_half y (by omega) hy2
     have := HY.out
     show _ = _; omega
    go_wp2
    go_roundw
    case rel => exact ⟨k + 1,y / 2,by go_num,by go_num,HY2.out,by omega,trivial⟩
    case measure => simp [intOf]; omega
   ·have hy0 : y = 0 := by omega
    subst hy0
    have hkl2 : k = l := by have := HY.out; rw [bitLen0] at this; omega
    go_wp2
    go_ret
    exact ⟨ret_int (by omega),rfl⟩
theorem Ow.grown {w0 w w' : World} {b : Nat} {M L : List Bool} {v : Value} (h : Ow w0 w b M) (hv : Bo w0.heap.size w v L) (hg : w.grownBy w' v.ownBlock) : Ow w0 w' b M := by
 obtain ⟨g,hW,hF⟩ := h
 have hfr : Fr (fun k => v.ownBlock = some k) w w' := Fr.grown (S := fun k => v.ownBlock = some k) (Fr.refl _ w) hg (fun k hk => .inl hk)
 have hap : ∀ k,At b g k → ¬ v.ownBlock = some k := by
  intro k hk e
  rcases hv.2 with ⟨rfl,_⟩ | ⟨g',cap,cur,rfl,_,hgg,_⟩
  ·simp [Value.ownBlock] at e
  ·simp [Value.ownBlock] at e
   subst e
   exact hW.apart _ cur hgg hk
 refine ⟨g,hW.keep hfr (hap b (.inl rfl)) (fun k hk => hap k (.inr hk.symm)),hF.fresh hfr (fun k hk => (World.ownsRow.lt hv k hk).1)⟩
def wd (k j : Nat) : Nat := wid (lo k j) (hi k j)
def bsum (k : Nat) : Nat → Nat
 | 0 => 0
 | n + 1 => bsum k n + wd k n
def bitsK (k : Nat) : Nat := bsum k (cnt k)
theorem rng_ok (k j : Nat) (h : j < cnt k) : -524288 ≤ lo k j ∧ lo k j ≤ 1 ∧ 7 ≤ hi k j ∧ hi k j ≤ 524287 := by
 rcases pairs k j h with ⟨rfl,rfl | rfl⟩ | ⟨rfl,rfl | rfl⟩ | ⟨rfl,rfl⟩ | ⟨rfl,rfl | rfl | rfl⟩ | ⟨rfl,rfl | rfl | rfl⟩ | ⟨rfl,rfl | rfl | rfl⟩ <;> decide
theorem wd_le (k j : Nat) (h : j < cnt k) : 3 ≤ wd k j ∧ wd k j ≤ 20 := by
 rcases pairs k j h with ⟨rfl,rfl | rfl⟩ | ⟨rfl,rfl | rfl⟩ | ⟨rfl,rfl⟩ | ⟨rfl,rfl | rfl | rfl⟩ | ⟨rfl,rfl | rfl | rfl⟩ | ⟨rfl,rfl | rfl | rfl⟩ <;> decide +kernel
theorem bsum_le (k n : Nat) (h : n ≤ cnt k) : bsum k n ≤ 20 * n := by
 induction n with
 | zero => simp [bsum]
 | succ n ih =>
  have := ih (by omega)
  have := wd_le k n (by omega)
  simp only [bsum]; omega
set_option maxRecDepth 100000 in
theorem bits_any (w : World) (ht : Tab w) (k : Nat) (hk : k < 256) :
  Calls Tryz.prog 204 #[.int .u8 (k : Int)] w fun e w' => e = .returned (.int .i64 ((bitsK k : Nat) : Int)) ∧ Fr Nobody w w' := by
 have H : Hid (Tab w) := ht
 clear ht
 have hc := cnt_le k
 obtain ⟨c,ec⟩ : ∃ c,cnt k = c := ⟨_,rfl⟩
 have EC : Hid (cnt k = c) := ec
 rw [ec] at hc
 clear ec
 have EB : Hid (bitsK k = bsum k c) := by show _ = _; rw [bitsK,EC.out]
 go_enter Tryz.func204,Tryz.ntmps204
 go_wp2_with fail
 refine (count_any w H.out k hk).mono ?_
 rintro e w' ⟨rfl,rfl⟩
 rw [EC.out]
 go_wp2
 go_loopw [3,7] (fun a b wr => ∃ j : Nat,j ≤ c ∧ b = .int .i64 j ∧ a = .int .i64 (bsum k j : Nat) ∧ Fr Nobody w' wr) (fun _ b _ => c - (intOf b).toNat)
 case atStart => exact ⟨0,by omega,rfl,rfl,Fr.refl _ _⟩
 case round =>
  obtain ⟨j,hj,rfl,rfl,hf⟩ := hrel
  have HF : Hid (Fr Nobody w' wr) := hf
  clear hf
  by_cases hlt : j < c
  ·have hjc : j < cnt k := by rw [EC.out]; exact hlt
   obtain ⟨l0,l1,l2,l3⟩ := rng_ok k j hjc
   have h6 : k < 6 := by
    rcases Nat.lt_or_ge k 6 with h | h
    ·exact h
    ·rw [cnt_out k h] at hjc; omega
   have hx := (H.out.quiet HF.out).lo k j h6 (by omega)
   have hy := (H.out.quiet HF.out).hi k j h6 (by omega)
   have hb := bsum_le k j (by omega)
   have HW : Hid (∀ w,Calls Tryz.prog 165 #[.int .i64 (lo k j),.int .i64 (hi k j)] w fun e w' => e = .returned (.int .i64 (wd k j : Nat)) ∧ w' = w) := fun w => width_any (lo k j) (hi k j) w (by omega) (by omega) (by omega) (by omega)
   have hw := wd_le k j hjc
   have HS : Hid (bsum k (j + 1) = bsum k j + wd k j) := rfl
   generalize lo k j = x at *
   generalize hi k j = y at *
   generalize wd k j = z at *
   generalize bsum k j = s at *
   clear hjc
   go_wp2
   go_quiet (refine Calls.quiet_of_same (HW.out _))
   have HF2 : Hid (Fr Nobody w' (wr.drewN nq)) := HF.out.drewN nq
   go_wp2
   go_roundw
   case rel => exact ⟨j + 1,by omega,by go_num,by rw [HS.out]; go_num,HF2.out⟩
   case measure => simp [intOf]; omega
  ·have e : j = c := by omega
   subst e
   go_wp2
   go_ret
   exact ⟨by rw [EB.out]; rfl,HF.out⟩
end Go.Proofs.YtgifeckbflkkpaaGreatDoor
