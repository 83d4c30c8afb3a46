/- Masks of components; lists that are alike; the place of a kind. -/
import Derived.Test.YtgifeckbflkkpaaGreatDoorQp15
import Derived.Deep.RegionWith
import Derived.Deep.QuietTactic
import Derived.Deep.RegionHeld3
import Derived.Deep.AppendLies
namespace Go.Proofs.YtgifeckbflkkpaaGreatDoor
open Go.RowKit Go.ChangeShapes Go.WideShapes
set_option linter.unusedVariables false
set_option maxHeartbeats 4000000
set_option maxRecDepth 100000
def hasK (L : List Cp) (k : Nat) : Bool := L.any fun q => decide (q.k = k)
theorem hasK_snoc (L : List Cp) (q : Cp) (k : Nat) : hasK (L ++ [q]) k = (hasK L k || decide (q.k = k)) := by simp [hasK]
def mskN (L : List Cp) : Nat → Nat
 | 0 => 0
 | n + 1 => mskN L n + if hasK L n then 2 ^ n else 0
def msk (L : List Cp) : Nat := mskN L 6
theorem mskN_lt (L : List Cp) (n : Nat) : mskN L n < 2 ^ n := by
 induction n with
 | zero => simp [mskN]
 | succ n ih => rw [mskN,Nat.pow_succ]; split <;> omega
def val (a b c d e f : Bool) : Nat := a.toNat + 2 * b.toNat + 4 * c.toNat + 8 * d.toNat + 16 * e.toNat + 32 * f.toNat
theorem msk_val (L : List Cp) : msk L = val (hasK L 0) (hasK L 1) (hasK L 2) (hasK L 3) (hasK L 4) (hasK L 5) := by
 unfold msk val
 simp only [mskN]
 cases hasK L 0 <;> cases hasK L 1 <;> cases hasK L 2 <;> cases hasK L 3 <;> cases hasK L 4 <;> cases hasK L 5 <;> rfl
theorem msk_nil : msk [] = 0 := by simp [msk,mskN,hasK]
theorem msk_lt (L : List Cp) : msk L < 64 := mskN_lt L 6
theorem val_or : ∀ (k : Fin 6) (a b c d e f : Bool),val (a || decide (k.1 = 0)) (b || decide (k.1 = 1)) (c || decide (k.1 = 2)) (d || decide (k.1 = 3)) (e || decide (k.1 = 4)) (f || decide (k.1 = 5)) = val a b c d e f ||| (1 <<< k.1) := by decide
theorem msk_snoc (L : List Cp) (q : Cp) (h : q.k < 6) : msk (L ++ [q]) = msk L ||| (1 <<< q.k) := by
 rw [msk_val,msk_val]
 simp only [hasK_snoc]
 exact val_or ⟨q.k,h⟩ _ _ _ _ _ _
theorem msk_skip (L : List Cp) (q : Cp) (h : ¬ q.k < 6) : msk (L ++ [q]) = msk L := by
 rw [msk_val,msk_val]
 simp only [hasK_snoc]
 rw [decide_eq_false (by omega : ¬ q.k = 0),decide_eq_false (by omega : ¬ q.k = 1),decide_eq_false (by omega : ¬ q.k = 2),decide_eq_false (by omega : ¬ q.k = 3),decide_eq_false (by omega : ¬ q.k = 4),decide_eq_false (by omega : ¬ q.k = 5)]
 simp
theorem or_sh (m k : Nat) (hm : m < 64) (hk : k < 6) : bits .or .u8 (m : Int) (2 ^ k % 256) = ((m ||| 1 <<< k : Nat) : Int) := by
 have h : k = 0 ∨ k = 1 ∨ k = 2 ∨ k = 3 ∨ k = 4 ∨ k = 5 := by omega
 rcases h with rfl | rfl | rfl | rfl | rfl | rfl
 ·exact u8_or_nat m 1 (by omega) (by decide)
 ·exact u8_or_nat m 2 (by omega) (by decide)
 ·exact u8_or_nat m 4 (by omega) (by decide)
 ·exact u8_or_nat m 8 (by omega) (by decide)
 ·exact u8_or_nat m 16 (by omega) (by decide)
 ·exact u8_or_nat m 32 (by omega) (by decide)
theorem sh1 (m k : Nat) (h : m < 2 ^ k) : ((((m + 2 ^ k : Nat) : Int) / 2 ^ k).tmod 2 == 0) = false := by
 have h1 : ((2 : Int) ^ k) = ((2 ^ k : Nat) : Int) := by simp
 have h2 : (m + 2 ^ k) / 2 ^ k = 1 := by rw [Nat.add_div_right _ (Nat.two_pow_pos k),Nat.div_eq_of_lt h]
 rw [h1,← Int.natCast_ediv,h2]; rfl
theorem sh0 (m k : Nat) (h : m < 2 ^ k) : (((m : Int) / 2 ^ k).tmod 2 == 0) = true := by
 have h1 : ((2 : Int) ^ k) = ((2 ^ k : Nat) : Int) := by simp
 rw [h1,← Int.natCast_ediv,Nat.div_eq_of_lt h]; rfl
theorem take_snoc {α : Type} (L : List α) (j : Nat) (q : α) (h : L[j]? = some q) : L.take (j + 1) = L.take j ++ [q] := by rw [List.take_add_one,h]; rfl
theorem mask_any (w : World) (ao : Option Addr) (len cap : Nat) (L : List Cp) (hl : L.length = len) (hs : Cs w ao L) (hk : ∀ q ∈ L,q.k < 256) (hm : len ≤ 1000000) :
  Calls Tryz.prog 158 #[.slice ao len cap] w fun e w' => e = .returned (.int .u8 ((msk L : Nat) : Int)) ∧ Fr Nobody w w' := by
 have HL : Hid (L.length = len ∧ Cs w ao L ∧ ∀ q ∈ L,q.k < 256) := ⟨hl,hs,hk⟩
 clear hl hs hk
 go_enter Tryz.func158,Tryz.ntmps158
 go_wp2
 go_loopw [3,8] (fun m c wr => ∃ j : Nat,j ≤ len ∧ c = .int .i64 j ∧ Fr Nobody w wr ∧ m = .int .u8 ((msk (L.take j) : Nat) : Int)) (fun _ c _ => len - (intOf c).toNat)
 case atStart => exact ⟨0,Nat.zero_le _,rfl,Fr.refl _ _,by simp [msk_nil]⟩
 case round =>
  obtain ⟨j,hj,rfl,hf,rfl⟩ := hrel
  have HF : Hid (Fr Nobody w wr) := hf
  clear hf
  by_cases hlt : j < len
  ·obtain ⟨q,hq⟩ : ∃ q,L[j]? = some q := ⟨_,List.getElem?_eq_getElem (by rw [HL.out.1]; exact hlt)⟩
   obtain ⟨g,o,hao,hall,hat⟩ := (HL.out.2.1.quiet HF.out).at j q hq
   subst hao
   have hk2 := HL.out.2.2 q (List.mem_of_getElem? hq)
   obtain ⟨c0,c1,c2,c3⟩ := hat
   have hlt' : (j : Int) < (len : Int) := by omega
   have HT : Hid (L.take (j + 1) = L.take j ++ [q]) := take_snoc L j q hq
   have hm64 := msk_lt (L.take j)
   clear hq hall
   by_cases h6 : q.k < 6
   ·have HM : Hid (msk (L.take (j + 1)) = msk (L.take j) ||| (1 <<< q.k)) := by rw [HT.out]; exact msk_snoc _ q h6
    obtain ⟨qk,qa,qb,qc⟩ := q
    simp only at c0 c1 c2 c3 hk2 h6 HM
    have h6' : (qk : Int) < 6 := by omega
    generalize msk (L.take j) = m at *
    go_wp2
    go_roundw
    case rel =>
     refine ⟨j + 1,by omega,by go_num,HF.out.alloc _,?_⟩
     rw [HM.out,or_sh m qk hm64 h6]
    case measure => simp [intOf]; omega
   ·have HM : Hid (msk (L.take (j + 1)) = msk (L.take j)) := by rw [HT.out]; exact msk_skip _ q h6
    obtain ⟨qk,qa,qb,qc⟩ := q
    simp only at c0 c1 c2 c3 hk2 h6 HM
    have h6' : ¬ (qk : Int) < 6 := by omega
    generalize msk (L.take j) = m at *
    go_wp2
    go_roundw
    case rel => exact ⟨j + 1,by omega,by go_num,HF.out.alloc _,by rw [HM.out]⟩
    case measure => simp [intOf]; omega
  ·have HN : Hid (L.take j = L) := List.take_of_length_le (by rw [HL.out.1]; omega)
   have hlt' : ¬ (j : Int) < (len : Int) := by omega
   rw [HN.out]
   obtain ⟨m,hm⟩ : ∃ m,msk L = m := ⟨_,rfl⟩
   have HM : Hid (msk L = m) := hm
   rw [hm]
   clear hm
   go_wp2
   go_ret
   exact ⟨by rw [HM.out]; rfl,HF.out⟩
theorem hasK_take_succ {L : List Cp} {j k : Nat} {q : Cp} (hq : L[j]? = some q) : hasK (L.take (j + 1)) k = (hasK (L.take j) k || decide (q.k = k)) := by rw [take_snoc L j q hq,hasK_snoc]
def ad (L : List Cp) (k j : Nat) : Nat := if hasK (L.take j) k then 2 ^ k else 0
theorem rmask_any (w : World) (ao : Option Addr) (len cap : Nat) (L : List Cp) (hl : L.length = len) (hs : Cs w ao L) (hk : ∀ q ∈ L,q.k < 256) (hm : len ≤ 1000000) :
  Calls Tryz.prog 79 #[.slice ao len cap] w fun e w' => e = .returned (.int .u8 ((msk L : Nat) : Int)) ∧ Fr Nobody w w' := by
 have HL : Hid (L.length = len ∧ Cs w ao L ∧ ∀ q ∈ L,q.k < 256) := ⟨hl,hs,hk⟩
 clear hl hs hk
 go_enter Tryz.func79,Tryz.ntmps79
 go_wp2
 go_loopw [3,7] (fun m c wr => ∃ k : Nat,k ≤ 6 ∧ c = .int .u8 k ∧ Fr Nobody w wr ∧ m = .int .u8 ((mskN L k : Nat) : Int)) (fun _ c _ => 6 - (intOf c).toNat)
 case atStart => exact ⟨0,by decide,rfl,Fr.refl _ _,rfl⟩
 case round =>
  obtain ⟨k,hk,rfl,hf,rfl⟩ := hrel
  have HF : Hid (Fr Nobody w wr) := hf
  clear hf
  by_cases hk6 : k < 6
  ·have hk6' : (k : Int) < 6 := by omega
   have hmlt := mskN_lt L k
   have hp : 2 ^ k ≤ 32 := by
    have : k = 0 ∨ k = 1 ∨ k = 2 ∨ k = 3 ∨ k = 4 ∨ k = 5 := by omega
    rcases this with rfl | rfl | rfl | rfl | rfl | rfl <;> decide
   have HN : Hid (mskN L (k + 1) = mskN L k + ad L k len) := by
    show _ = _
    rw [mskN,ad,List.take_of_length_le (by rw [HL.out.1]; exact Nat.le_refl _)]
   generalize mskN L k = m0 at *
   go_wp2
   go_loopw [3,12] (fun m c wr2 => ∃ j : Nat,j ≤ len ∧ c = .int .i64 j ∧ Fr Nobody w wr2 ∧ m = .int .u8 ((m0 + ad L k j : Nat) : Int)) (fun _ c _ => len - (intOf c).toNat)
   case atStart => exact ⟨0,Nat.zero_le _,rfl,HF.out,by simp [ad,hasK]⟩
   case round =>
    obtain ⟨j,hj,rfl,hf2,rfl⟩ := hrel
    have HF2 : Hid (Fr Nobody w _) := hf2
    clear hf2
    by_cases hlt : j < len
    ·obtain ⟨q,hq⟩ : ∃ q,L[j]? = some q := ⟨_,List.getElem?_eq_getElem (by rw [HL.out.1]; exact hlt)⟩
     obtain ⟨g,o,hao,hall,hat⟩ := (HL.out.2.1.quiet HF2.out).at j q hq
     subst hao
     have hk2 := HL.out.2.2 q (List.mem_of_getElem? hq)
     obtain ⟨c0,c1,c2,c3⟩ := hat
     have hlt' : (j : Int) < (len : Int) := by omega
     have HA : Hid (ad L k (j + 1) = if (hasK (L.take j) k || decide (q.k = k)) then 2 ^ k else 0) := by show _ = _; rw [ad,hasK_take_succ hq]
     clear hq hall
     obtain ⟨qk,qa,qb,qc⟩ := q
     simp only at c0 c1 c2 c3 hk2 HA
     by_cases he : qk = k
     ·subst he
      by_cases hh : hasK (L.take j) qk = true
      ·have e1 : ad L qk j = 2 ^ qk := by simp [ad,hh]
       have HA2 : Hid (ad L qk (j + 1) = 2 ^ qk) := by show _ = _; rw [HA.out]; simp
       rw [e1]
       have hsh := sh1 m0 qk hmlt
       clear hh e1
       obtain ⟨M,hM⟩ : ∃ M,M = m0 + 2 ^ qk := ⟨_,rfl⟩
       have HMM : Hid (M = m0 + 2 ^ qk) := hM
       rw [← hM] at hsh ⊢
       have hM2 : M < 64 := by omega
       clear hM
       go_wp2
       go_roundw
       case rel => exact ⟨j + 1,by omega,by go_num,HF2.out.alloc _,by rw [HA2.out,HMM.out]⟩
       case measure => simp [intOf]; omega
      ·have e1 : ad L qk j = 0 := by simp [ad,hh]
       have HA2 : Hid (ad L qk (j + 1) = 2 ^ qk) := by show _ = _; rw [HA.out]; simp
       rw [e1,Nat.add_zero]
       have hsh := sh0 m0 qk hmlt
       have HS : Hid (((m0 : Int) + 2 ^ qk % 256) % 256 = ((m0 + 2 ^ qk : Nat) : Int)) := by
        show _ = _
        have h1 : ((2 : Int) ^ qk) = ((2 ^ qk : Nat) : Int) := by simp
        rw [h1]; omega
       clear hh e1
       go_wp2
       go_roundw
       case rel => exact ⟨j + 1,by omega,by go_num,HF2.out.alloc _,by rw [HA2.out,HS.out]⟩
       case measure => simp [intOf]; omega
     ·have HA2 : Hid (ad L k (j + 1) = ad L k j) := by show _ = _; rw [HA.out,ad,decide_eq_false he,Bool.or_false]
      have he' : ((qk : Int) == (k : Int)) = false := by rw [beq_eq_false_iff_ne]; omega
      have had : ad L k j ≤ 32 := by unfold ad; split <;> omega
      generalize ad L k j = aj at *
      obtain ⟨M,hM⟩ : ∃ M,M = m0 + aj := ⟨_,rfl⟩
      have HMM : Hid (M = m0 + aj) := hM
      rw [← hM]
      have hM2 : M < 64 := by omega
      clear hM
      go_wp2
      go_roundw
      case rel => exact ⟨j + 1,by omega,by go_num,HF2.out.alloc _,by rw [HA2.out,HMM.out]⟩
      case measure => simp [intOf]; omega
    ·have hjl : j = len := by omega
     subst hjl
     have hlt' : ¬ (j : Int) < (j : Int) := by omega
     have HN2 : Hid (mskN L (k + 1) = m0 + ad L k j) := HN.out
     obtain ⟨M,hM⟩ : ∃ M,M = m0 + ad L k j := ⟨_,rfl⟩
     have HMM : Hid (mskN L (k + 1) = M) := by rw [hM]; exact HN.out
     rw [← hM]
     clear hM
     go_wp2
     go_roundw
     case rel => exact ⟨k + 1,by omega,by go_num,HF2.out,by rw [HMM.out]⟩
     case measure => simp [intOf]; omega
  ·have hk7 : k = 6 := by omega
   subst hk7
   obtain ⟨M,hM⟩ : ∃ M,M = mskN L 6 := ⟨_,rfl⟩
   have HMM : Hid (msk L = M) := hM.symm
   rw [← hM]
   clear hM
   go_wp2
   go_ret
   exact ⟨by rw [HMM.out]; rfl,HF.out⟩
theorem lst_ok {p : Int} {L : List Cp} (h : lst p L = 0) : L.Pairwise (fun x y => x.k < y.k) ∧ ∀ q ∈ L,p < (q.k : Int) ∧ q.chk = 0 := by
 induction L generalizing p with
 | nil => exact ⟨List.Pairwise.nil,fun q hq => by simp at hq⟩
 | cons q t ih =>
  rw [lst] at h
  by_cases h1 : q.chk ≠ 0
  ·rw [if_pos h1] at h; exact absurd h h1
  ·rw [if_neg h1] at h
   by_cases h2 : (q.k : Int) ≤ p
   ·rw [if_pos h2] at h; cases h
   ·rw [if_neg h2] at h
    obtain ⟨i1,i2⟩ := ih h
    refine ⟨List.Pairwise.cons (fun x hx => ?_) i1,fun x hx => ?_⟩
    ·have := (i2 x hx).1; omega
    ·rcases List.mem_cons.1 hx with rfl | hx
     ·exact ⟨by omega,by omega⟩
     ·have := i2 x hx; exact ⟨by omega,this.2⟩
theorem chk_k {q : Cp} (h : q.chk = 0) : q.k < 6 := by
 unfold Cp.chk chk at h
 by_cases c : 6 ≤ q.k
 ·rw [if_pos c] at h; cases h
 ·omega
theorem hasK_true {L : List Cp} {q : Cp} (h : q ∈ L) : hasK L q.k = true := by
 unfold hasK; rw [List.any_eq_true]; exact ⟨q,h,by simp⟩
theorem find_any (w : World) (ao : Option Addr) (len cap : Nat) (L : List Cp) (hl : L.length = len) (hs : Cs w ao L) (hk : ∀ q ∈ L,q.k < 256) (hm : len ≤ 1000000) (k : Nat) (hkk : k < 256) :
  Calls Tryz.prog 53 #[.slice ao len cap,.int .u8 (k : Int)] w fun e w' => ∃ r : Int,e = .returned (.int .i64 r) ∧ Fr Nobody w w' ∧ ((r = -1 ∧ hasK L k = false) ∨ ∃ i : Nat,r = i ∧ ∃ q : Cp,L[i]? = some q ∧ q.k = k ∧ hasK L k = true) := by
 have HL : Hid (L.length = len ∧ Cs w ao L ∧ ∀ q ∈ L,q.k < 256) := ⟨hl,hs,hk⟩
 clear hl hs hk
 go_enter Tryz.func53,Tryz.ntmps53
 go_wp2
 go_loopw [9] (fun c wr => ∃ j : Nat,j ≤ len ∧ c = .int .i64 j ∧ Fr Nobody w wr ∧ hasK (L.take j) k = false) (fun c _ => len - (intOf c).toNat)
 case atStart => exact ⟨0,Nat.zero_le _,rfl,Fr.refl _ _,by simp [hasK]⟩
 case round =>
  obtain ⟨j,hj,rfl,hf,hno⟩ := hrel
  have HF : Hid (Fr Nobody w wr) := hf
  have HN : Hid (hasK (L.take j) k = false) := hno
  clear hf hno
  by_cases hlt : j < len
  ·obtain ⟨q,hq⟩ : ∃ q,L[j]? = some q := ⟨_,List.getElem?_eq_getElem (by rw [HL.out.1]; exact hlt)⟩
   obtain ⟨g,o,hao,hall,hat⟩ := (HL.out.2.1.quiet HF.out).at j q hq
   subst hao
   have hk2 := HL.out.2.2 q (List.mem_of_getElem? hq)
   obtain ⟨c0,c1,c2,c3⟩ := hat
   have hlt' : (j : Int) < (len : Int) := by omega
   have HQ : Hid (L[j]? = some q) := hq
   clear hq hall
   by_cases he : q.k = k
   ·have HH : Hid (hasK L k = true) := by rw [← he]; exact hasK_true (List.mem_of_getElem? HQ.out)
    have HE : Hid (q.k = k) := he
    have he' : ((q.k : Int) == (k : Int)) = true := by rw [he]; simp
    clear he
    obtain ⟨qk,qa,qb,qc⟩ := q
    simp only at c0 c1 c2 c3 hk2 he'
    go_wp2
    go_ret
    exact ⟨(j : Int),rfl,HF.out.alloc _,.inr ⟨j,rfl,⟨qk,qa,qb,qc⟩,HQ.out,HE.out,HH.out⟩⟩
   ·have HH : Hid (hasK (L.take (j + 1)) k = false) := by show _ = _; rw [hasK_take_succ HQ.out,HN.out,decide_eq_false he]; rfl
    have he' : ((q.k : Int) == (k : Int)) = false := by rw [beq_eq_false_iff_ne]; omega
    clear he
    obtain ⟨qk,qa,qb,qc⟩ := q
    simp only at c0 c1 c2 c3 hk2 he'
    go_wp2
    go_roundw
    case rel => exact ⟨j + 1,by omega,by go_num,HF.out.alloc _,HH.out⟩
    case measure => simp [intOf]; omega
  ·have hlt' : ¬ (j : Int) < (len : Int) := by omega
   have HH : Hid (hasK L k = false) := by
    have := HN.out
    rw [List.take_of_length_le (by rw [HL.out.1]; omega)] at this
    exact this
   go_wp2
   go_ret
   exact ⟨-1,rfl,HF.out,.inl ⟨rfl,HH.out⟩⟩
end Go.Proofs.YtgifeckbflkkpaaGreatDoor
namespace Go.Proofs.YtgifeckbflkkpaaGreatDoor
open Go.RowKit
set_option linter.unusedVariables false
set_option maxHeartbeats 4000000
set_option maxRecDepth 100000
structure EnE where
 id : Nat
 ao : Option Addr
 cap : Nat
 C : List Cp
def EnE.cs (x : EnE) : List Value := [.int .u32 (x.id : Int),.slice x.ao x.C.length x.cap]
def erow (x : EnE) : Thing := Row 63 4 (.slice x.ao x.C.length x.cap) x.C.length (ccat x.C)
theorem Tryz.infoEnt : (Tryz.prog.info? 60).map (fun i => (i.zero,i.size,i.bytes)) = some (some (.agg #[.int .u32 0,.slice none 0 0]),2,32) := by kernel_rfl
theorem info3w {P : Program} {t : TypeId} {z : Option Value} {s b : Nat} (h : (P.info? t).map (fun i => (i.zero,i.size,i.bytes)) = some (z,s,b)) : ∃ i,P.info? t = some i ∧ i.zero = z ∧ i.size = s ∧ i.bytes = b := by
 cases hi : P.info? t with
 | none => rw [hi] at h; simp at h
 | some i => rw [hi] at h; simp at h; exact ⟨i,rfl,h.1,h.2.1,h.2.2⟩
def EntsT (ao : Option Addr) (cap : Nat) (L : List EnE) : Thing := Ex (fun _ : Unit => Row 60 2 (.slice ao L.length cap) L.length (cat EnE.cs L) :: L.map erow)
theorem Own.ents {w0 w : World} {l : List Thing} {ao : Option Addr} {cap : Nat} {L : List EnE} (h : Own w0 w ((Row 60 2 (.slice ao L.length cap) L.length (cat EnE.cs L) :: L.map erow) ++ l)) : Own w0 w (EntsT ao cap L :: l) := Own.ex_iff.2 ⟨(),h⟩
theorem Own.entAt {w0 w : World} {l : List Thing} {ao : Option Addr} {cap : Nat} {L : List EnE} (h : Own w0 w (EntsT ao cap L :: l)) {j : Nat} {x : EnE} (hx : L[j]? = some x) :
  (∃ g,ao = some ⟨g,0,none⟩ ∧ w.cell? ⟨g,j * 2,none⟩ = some (.int .u32 (x.id : Int)) ∧ w.cell? ⟨g,j * 2 + 1,none⟩ = some (.slice x.ao x.C.length x.cap)) ∧ Cs w x.ao x.C := by
 obtain ⟨_,h1⟩ := Own.ex_iff.1 h
 have hj := (List.getElem?_eq_some_iff.1 hx).1
 constructor
 ·obtain ⟨g,cp,hv,_⟩ := row_shape h1.row (by omega)
  have hva := (Value.slice.inj hv).1
  subst hva
  have hr := h1.row
  refine ⟨g,rfl,?_,?_⟩
  ·rw [hr.cellAt _ (by omega)]
   exact cat_at EnE.cs 2 (fun _ => rfl) L j 0 x hx (by decide)
  ·rw [hr.cellAt _ (by omega)]
   exact cat_at EnE.cs 2 (fun _ => rfl) L j 1 x hx (by decide)
 ·obtain ⟨L1,L2,rfl⟩ := List.append_of_mem (List.mem_of_getElem? hx)
  have h2 : Own w0 w (erow x :: (L1.map erow ++ (L2.map erow ++ l))) := by
   have h3 : Own w0 w ((L1 ++ x :: L2).map erow ++ l) := h1.tail
   refine h3.perm ?_
   have e : (L1 ++ x :: L2).map erow ++ l = L1.map erow ++ (erow x :: (L2.map erow ++ l)) := by simp
   rw [e]
   exact List.perm_middle
  exact Own.cs (h2.view (by decide)) rfl
structure FrOf (w : World) where
 val : World
 fr : Fr Nobody w val
instance (w : World) : Inhabited (FrOf w) := ⟨⟨w,Fr.refl _ _⟩⟩
theorem wp_region_fr {P : Program} {id : Nat} {Q : Exit → Act → World → Prop} {a : Act} {w : World} {l : List Oper} (hm : P.follows .mixedOrders = true) (hB : Region.lexB .any l.toArray = true)
  (h : wpQuiet P l.toArray (fun w' => ∃ f : FrOf w,w' = f.val) (fun a' => ∀ w',(∃ f : FrOf w,w' = f.val) → Q .normal a' w') l a) : (Code.region id l.toArray true).wp P Q a w :=
 wp_region_quiet (C := fun w' => ∃ f : FrOf w,w' = f.val) hm hB ⟨⟨_,(Fr.refl _ w).drew⟩,rfl⟩ (by simpa using h)
theorem Calls.fr_of {P : Program} {f : FuncId} {args : Array Value} {w : World} {v : Value} {g : FrOf w}
  (h : Calls P f args g.val fun e w' => e = .returned v ∧ Fr Nobody g.val w') : Calls P f args g.val fun e w'' => e = .returned v ∧ ∃ f : FrOf w,w'' = f.val :=
 h.mono fun _ w' ⟨he,hf⟩ => ⟨he,⟨w',g.fr.trans hf⟩,rfl⟩
theorem Calls.fr_same {P : Program} {f : FuncId} {args : Array Value} {w : World} {v : Value} {g : FrOf w}
  (h : Calls P f args g.val fun e w' => e = .returned v ∧ w' = g.val) : Calls P f args g.val fun e w'' => e = .returned v ∧ ∃ f : FrOf w,w'' = f.val :=
 h.mono fun _ w' ⟨he,hf⟩ => ⟨he,g,hf⟩
theorem step_allW {P : Program} {w0 w : World} {l : List Thing} {ops : Array Oper} {o : Oper} {a : Act} {K : Act → World → Prop} {Q : Exit → Act → World → Prop} {E : Prop} (hgd : o.guard = none) (sx x : Operand) (t : TypeId)
  (ho : o.op = .call { callee := .builtin .append,args := #[sx,x],argTypes := #[t,t] })
  (e : TypeId) (i : TypeInfo) (z : Value) (size bytes : Nat) (ht : P.underlying t = some (.slice e)) (hi : P.info? e = some i) (hz : i.zero = some z)
  (hsize : i.size = size) (hby : i.bytes = bytes) (hzs : z.cells.size = size) (hsz : 0 < size)
  (v : Value) (n : Nat) (xs : List Value) (hs : a.eval sx = v) (xa : Option Addr) (m xc : Nat) (ys : List Value) (hx : a.eval x = .slice xa m xc) (hown : Own w0 w (Row e size v n xs :: l)) (hr : w.ownsRow 0 e size (.slice xa m xc) m ys) (h1 : ∀ u ∈ ys,u.oneCell' = true)
  (h63 : n + m ≤ maxLen) (hbytes : (n + m) * bytes ≤ 140737488355328)
  (h : ∀ ao cap w',Own w0 w' (Row e size (.slice ao (n + m) cap) (n + m) (xs ++ ys) :: l) → K (a.put o.dst (.slice ao (n + m) cap)) w') :
  if Region.wanted o (yielded ops a.tmps) = true then Oper.wp P o a w K Q else E := by
 have hw : Region.wanted o (yielded ops a.tmps) = true := by simp [Region.wanted,hgd]
 rw [if_pos hw]
 rcases Nat.eq_zero_or_pos m with h0 | h0
 ·subst h0
  have hy : ys = [] := List.eq_nil_of_length_eq_zero (by rw [hr.1]; simp)
  subst hy
  obtain ⟨va,vc,rfl⟩ := row_any hown.row
  have hr := run_append_empty (P := P) w 0 t o.type e i size ht hi _ n xs hown.row xa xc
  unfold Oper.wp
  simp [execOp,ho,resolve,invoke,builtin,hs,hx,hr,Result.andThen]
  have := h va vc w (by simpa using hown)
  simp at this
  exact this
 ·obtain ⟨g,cap,hv,_⟩ := row_shape hr h0
  have hxa := (Value.slice.inj hv).1
  subst hxa
  refine wp_append_lies w sx x t ho 0 e i z size bytes ht hi hz hsize hby hzs hsz v n xs hs hown.row ⟨g,0,none⟩ m xc ys hx hr.1 (fun j u hu => by
   rw [addr_add,Nat.zero_add,hr.cellAt j (by rw [← hr.1]; exact (List.getElem?_eq_some_iff.1 hu).1)]; exact hu) h1 h0 h63 hbytes (Nat.zero_le _) _ rfl ?_
  intro g' cap' w' h2 h3 h4 h5
  refine h _ _ w' (hown.grow h2 h3 (fun k hk => ?_))
  have hk' : g' = k := by simpa [Value.ownBlock] using hk
  subst hk'
  rcases h4 with h4 | h4
  ·exact .inl h4
  ·exact .inr (by omega)
end Go.Proofs.YtgifeckbflkkpaaGreatDoor
