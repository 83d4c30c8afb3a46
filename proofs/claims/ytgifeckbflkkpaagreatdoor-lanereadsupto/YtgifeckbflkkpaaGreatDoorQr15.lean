/- Masks of components; lists that are alike; the place of a kind. -/
import Derived.Test.YtgifeckbflkkpaaGreatDoorQr14
import Derived.Deep.RegionWith
import Derived.Deep.QuietTactic
import Derived.Deep.RegionHeld3
import Derived.Deep.AppendLies
namespace Go.Proofs.YtgifeckbflkkpaaGreatDoor
open Go.RowKit Go.ChangeShapes Go.WideShapes
set_option linter.unusedVariables false
set_option maxHeartbeats 4000000
set_option maxRecDepth 100000
def hasK (L : List Cp) (k : Nat) : Bool := L.any fun q => decide (q.k = k)
theorem hasK_snoc (L : List Cp) (q : Cp) (k : Nat) : hasK (L ++ [q]) k = (hasK L k || decide (q.k = k)) := by simp [hasK]
def mskN (L : List Cp) : Nat → Nat
 | 0 => 0
 | n + 1 => mskN L n + if hasK L n then 2 ^ n else 0
def msk (L : List Cp) : Nat := mskN L 6
theorem mskN_lt (L : List Cp) (n : Nat) : mskN L n < 2 ^ n := by
 induction n with
 | zero => simp [mskN]
 | succ n ih => rw [mskN,Nat.pow_succ]; split <;> omega
def val (a b c d e f : Bool) : Nat := a.toNat + 2 * b.toNat + 4 * c.toNat + 8 * d.toNat + 16 * e.toNat + 32 * f.toNat
theorem msk_val (L : List Cp) : msk L = val (hasK L 0) (hasK L 1) (hasK L 2) (hasK L 3) (hasK L 4) (hasK L 5) := by
 unfold msk val
 simp only [mskN]
 cases hasK L 0 <;> cases hasK L 1 <;> cases hasK L 2 <;> cases hasK L 3 <;> cases hasK L 4 <;> cases hasK L 5 <;> rfl
theorem msk_nil : msk [] = 0 := by simp [msk,mskN,hasK]
theorem msk_lt (L : List Cp) : msk L < 64 := mskN_lt L 6
theorem val_or : ∀ (k : Fin 6) (a b c d e f : Bool),val (a || decide (k.1 = 0)) (b || decide (k.1 = 1)) (c || decide (k.1 = 2)) (d || decide (k.1 = 3)) (e || decide (k.1 = 4)) (f || decide (k.1 = 5)) = val a b c d e f ||| (1 <<< k.1) := by decide
theorem msk_snoc (L : List Cp) (q : Cp) (h : q.k < 6) : msk (L ++ [q]) = msk L ||| (1 <<< q.k) := by
 rw [msk_val,msk_val]
 simp only [hasK_snoc]
 exact val_or ⟨q.k,h⟩ _ _ _ _ _ _
theorem msk_skip (L : List Cp) (q : Cp) (h : ¬ q.k < 6) : msk (L ++ [q]) = msk L := by
 rw [msk_val,msk_val]
 simp only [hasK_snoc]
 rw [decide_eq_false (by omega : ¬ q.k = 0),decide_eq_false (by omega : ¬ q.k = 1),decide_eq_false (by omega : ¬ q.k = 2),decide_eq_false (by omega : ¬ q.k = 3),decide_eq_false (by omega : ¬ q.k = 4),decide_eq_false (by omega : ¬ q.k = 5)]
 simp
theorem or_sh (m k : Nat) (hm : m < 64) (hk : k < 6) : bits .or .u8 (m : Int) (2 ^ k % 256) = ((m ||| 1 <<< k : Nat) : Int) := by
 have h : k = 0 ∨ k = 1 ∨ k = 2 ∨ k = 3 ∨ k = 4 ∨ k = 5 := by omega
 rcases h with rfl | rfl | rfl | rfl | rfl | rfl
 ·exact u8_or_nat m 1 (by omega) (by decide)
 ·exact u8_or_nat m 2 (by omega) (by decide)
 ·exact u8_or_nat m 4 (by omega) (by decide)
 ·exact u8_or_nat m 8 (by omega) (by decide)
 ·exact u8_or_nat m 16 (by omega) (by decide)
 ·exact u8_or_nat m 32 (by omega) (by decide)
theorem sh1 (m k : Nat) (h : m < 2 ^ k) : ((((m + 2 ^ k : Nat) : Int) / 2 ^ k).tmod 2 == 0) = false := by
 have h1 : ((2 : Int) ^ k) = ((2 ^ k : Nat) : Int) := by simp
 have h2 : (m + 2 ^ k) / 2 ^ k = 1 := by rw [Nat.add_div_right _ (Nat.two_pow_pos k),Nat.div_eq_of_lt h]
 rw [h1,← Int.natCast_ediv,h2]; rfl
theorem sh0 (m k : Nat) (h : m < 2 ^ k) : (((m : Int) / 2 ^ k).tmod 2 == 0) = true := by
 have h1 : ((2 : Int) ^ k) = ((2 ^ k : Nat) : Int) := by simp
 rw [h1,← Int.natCast_ediv,Nat.div_eq_of_lt h]; rfl
theorem take_snoc {α : Type} (L : List α) (j : Nat) (q : α) (h : L[j]? = some q) : L.take (j + 1) = L.take j ++ [q] := by rw [List.take_add_one,h]; rfl
theorem mask_any (w : World) (ao : Option Addr) (len cap : Nat) (L : List Cp) (hl : L.length = len) (hs : Cs w ao L) (hk : ∀ q ∈ L,q.k < 256) (hm : len ≤ 1000000) :
  Calls Tryz.prog 158 #[.slice ao len cap] w fun e w' => e = .returned (.int .u8 ((msk L : Nat) : Int)) ∧ Fr Nobody w w' := by
 have HL : Hid (L.length = len ∧ Cs w ao L ∧ ∀ q ∈ L,q.k < 256) := ⟨hl,hs,hk⟩
 clear hl hs hk
 go_enter Tryz.func158,Tryz.ntmps158
 go_wp2
 go_loopw [3,8] (fun m c wr => ∃ j : Nat,j ≤ len ∧ c = .int .i64 j ∧ Fr Nobody w wr ∧ m = .int .u8 ((msk (L.take j) : Nat) : Int)) (fun _ c _ => len - (intOf c).toNat)
 case atStart => exact ⟨0,Nat.zero_le _,rfl,Fr.refl _ _,by simp [msk_nil]⟩
 case round =>
  obtain ⟨j,hj,rfl,hf,rfl⟩ := hrel
  have HF : Hid (Fr Nobody w wr) := hf
  clear hf
  by_cases hlt : j < len
  ·obtain ⟨q,hq⟩ : ∃ q,L[j]? = some q := ⟨_,List.getElem?_eq_getElem (by rw [HL.out.1]; exact hlt)⟩
   obtain ⟨g,o,hao,hall,hat⟩ := (HL.out.2.1.quiet HF.out).at j q hq
   subst hao
   have hk2 := HL.out.2.2 q (List.mem_of_getElem? hq)
   obtain ⟨c0,c1,c2,c3⟩ := hat
   have hlt' : (j : Int) < (len : Int) := by omega
   have HT : Hid (L.take (j + 1) = L.take j ++ [q]) := take_snoc L j q hq
   have hm64 := msk_lt (L.take j)
   clear hq hall
   by_cases h6 : q.k < 6
   ·have HM : Hid (msk (L.take (j + 1)) = msk (L.take j) ||| (1 <<< q.k)) := by rw [HT.out]; exact msk_snoc _ q h6
    obtain ⟨qk,qa,qb,qc⟩ := q
    simp only at c0 c1 c2 c3 hk2 h6 HM
    have h6' : (qk : Int) < 6 := by omega
    generalize msk (L.take j) = m at *
    go_wp2
    go_roundw
    case rel =>
     refine ⟨j + 1,by omega,by go_num,HF.out.alloc _,?_⟩
     rw [HM.out,or_sh m qk hm64 h6]
    case measure => simp [intOf]; omega
   ·have HM : Hid (msk (L.take (j + 1)) = msk (L.take j)) := by rw [HT.out]; exact msk_skip _ q h6
    obtain ⟨qk,qa,qb,qc⟩ := q
    simp only at c0 c1 c2 c3 hk2 h6 HM
    have h6' : ¬ (qk : Int) < 6 := by omega
    generalize msk (L.take j) = m at *
    go_wp2
    go_roundw
    case rel => exact ⟨j + 1,by omega,by go_num,HF.out.alloc _,by rw [HM.out]⟩
    case measure => simp [intOf]; omega
  ·have HN : Hid (L.take j = L) := List.take_of_length_le (by rw [HL.out.1]; omega)
   have hlt' : ¬ (j : Int) < (len : Int) := by omega
   rw [HN.out]
   obtain ⟨m,hm⟩ : ∃ m,msk L = m := ⟨_,rfl⟩
   have HM : Hid (msk L = m) := hm
   rw [hm]
   clear hm
   go_wp2
   go_ret
   exact ⟨by rw [HM.out]; rfl,HF.out⟩
theorem hasK_take_succ {L : List Cp} {j k : Nat} {q : Cp} (hq : L[j]? = some q) : hasK (L.take (j + 1)) k = (hasK (L.take j) k || decide (q.k = k)) := by rw [take_snoc L j q hq,hasK_snoc]
def ad (L : List Cp) (k j : Nat) : Nat := if hasK (L.take j) k then 2 ^ k else 0
theorem rmask_any (w : World) (ao : Option Addr) (len cap : Nat) (L : List Cp) (hl : L.length = len) (hs : Cs w ao L) (hk : ∀ q ∈ L,q.k < 256) (hm : len ≤ 1000000) :
  Calls Tryz.prog 79 #[.slice ao len cap] w fun e w' => e = .returned (.int .u8 ((msk L : Nat) : Int)) ∧ Fr Nobody w w' := by
 have HL : Hid (L.length = len ∧ Cs w ao L ∧ ∀ q ∈ L,q.k < 256) := ⟨hl,hs,hk⟩
 clear hl hs hk
 go_enter Tryz.func79,Tryz.ntmps79
 go_wp2
 go_loopw [3,7] (fun m c wr => ∃ k : Nat,k ≤ 6 ∧ c = .int .u8 k ∧ Fr Nobody w wr ∧ m = .int .u8 ((mskN L k : Nat) : Int)) (fun _ c _ => 6 - (intOf c).toNat)
 case atStart => exact ⟨0,by decide,rfl,Fr.refl _ _,rfl⟩
 case round =>
  obtain ⟨k,hk,rfl,hf,rfl⟩ := hrel
  have HF : Hid (Fr Nobody w wr) := hf
  clear hf
  by_cases hk6 : k < 6
  ·have hk6' : (k : Int) < 6 := by omega
   have hmlt := mskN_lt L k
   have hp : 2 ^ k ≤ 32 := by
    have : k = 0 ∨ k = 1 ∨ k = 2 ∨ k = 3 ∨ k = 4 ∨ k = 5 := by omega
    rcases this with rfl | rfl | rfl | rfl | rfl | rfl <;> decide
   have HN : Hid (mskN L (k + 1) = mskN L k + ad L k len) := by
    show _ = _
    rw [mskN,ad,List.take_of_length_le (by rw [HL.out.1]; exact Nat.le_refl _)]
   generalize mskN L k = m0 at *
   go_wp2
   go_loopw [3,12] (fun m c wr2 => ∃ j : Nat,j ≤ len ∧ c = .int .i64 j ∧ Fr Nobody w wr2 ∧ m = .int .u8 ((m0 + ad L k j : Nat) : Int)) (fun _ c _ => len - (intOf c).toNat)
   case atStart => exact ⟨0,Nat.zero_le _,rfl,HF.out,by simp [ad,hasK]⟩
   case round =>
    obtain ⟨j,hj,rfl,hf2,rfl⟩ := hrel
    have HF2 : Hid (Fr Nobody w _) := hf2
    clear hf2
    by_cases hlt : j < len
    ·obtain ⟨q,hq⟩ : ∃ q,L[j]? = some q := ⟨_,List.getElem?_eq_getElem (by rw [HL.out.1]; exact hlt)⟩
     obtain ⟨g,o,hao,hall,hat⟩ := (HL.out.2.1.quiet HF2.out).at j q hq
     subst hao
     have hk2 := HL.out.2.2 q (List.mem_of_getElem? hq)
     obtain ⟨c0,c1,c2,c3⟩ := hat
     have hlt' : (j : Int) < (len : Int) := by omega
     have HA : Hid (ad L k (j + 1) = if (hasK (L.take j) k || decide (q.k = k)) then 2 ^ k else 0) := by show _ = _; rw [ad,hasK_take_succ hq]
     clear hq hall
     obtain ⟨qk,qa,qb,qc⟩ := q
     simp only at c0 c1 c2 c3 hk2 HA
     by_cases he : qk = k
     ·subst he
      by_cases hh : hasK (L.take j) qk = true
      ·have e1 : ad L qk j = 2 ^ qk := by simp [ad,hh]
       have HA2 : Hid (ad L qk (j + 1) = 2 ^ qk) := by show _ = _; rw [HA.out]; simp
       rw [e1]
       have hsh := sh1 m0 qk hmlt
       clear hh e1
       obtain ⟨M,hM⟩ : ∃ M,M = m0 + 2 ^ qk := ⟨_,rfl⟩
       have HMM : Hid (M = m0 + 2 ^ qk) := hM
       rw [← hM] at hsh ⊢
       have hM2 : M < 64 := by omega
       clear hM
       go_wp2
       go_roundw
       case rel => exact ⟨j + 1,by omega,by go_num,HF2.out.alloc _,by rw [HA2.out,HMM.out]⟩
       case measure => simp [intOf]; omega
      ·have e1 : ad L qk j = 0 := by simp [ad,hh]
       have HA2 : Hid (ad L qk (j + 1) = 2 ^ qk) := by show _ = _; rw [HA.out]; simp
       rw [e1,Nat.add_zero]
       have hsh := sh0 m0 qk hmlt
       have HS : Hid (((m0 : Int) + 2 ^ qk % 256) % 256 = ((m0 + 2 ^ qk : Nat) : Int)) := by
        show _ = _
        have h1 : ((2 : Int) ^ qk) = ((2 ^ qk : Nat) : Int) := by simp
        rw [h1]; omega
       clear hh e1
       go_wp2
       go_roundw
       case rel => exact ⟨j + 1,by omega,by go_num,HF2.out.alloc _,by rw [HA2.out,HS.out]⟩
       case measure => simp [intOf]; omega
     ·have HA2 : Hid (ad L k (j + 1) = ad L k j) := by show _ = _; rw [HA.out,ad,decide_eq_false he,Bool.or_false]
      have he' : ((qk : Int) == (k : Int)) = false := by rw [beq_eq_false_iff_ne]; omega
      have had : ad L k j ≤ 32 := by unfold ad; split <;> omega
      generalize ad L k j = aj at *
      obtain ⟨M,hM⟩ : ∃ M,M = m0 + aj := ⟨_,rfl⟩
      have HMM : Hid (M = m0 + aj) := hM
      rw [← hM]
      have hM2 : M < 64 := by omega
      clear hM
      go_wp2
      go_roundw
      case rel => exact ⟨j + 1,by omega,by go_num,HF2.out.alloc _,by rw [HA2.out,HMM.out]⟩
      case measure => simp [intOf]; omega
    ·have hjl : j = len := by omega
     subst hjl
     have hlt' : ¬ (j : Int) < (j : Int) := by omega
     have HN2 : Hid (mskN L (k + 1) = m0 + ad L k j) := HN.out
     obtain ⟨M,hM⟩ : ∃ M,M = m0 + ad L k j := ⟨_,rfl⟩
     have HMM : Hid (mskN L (k + 1) = M) := by rw [hM]; exact HN.out
     rw [← hM]
     clear hM
     go_wp2
     go_roundw
     case rel => exact ⟨k + 1,by omega,by go_num,HF2.out,by rw [HMM.out]⟩
     case measure => simp [intOf]; omega
  ·have hk7 : k = 6 := by omega
   subst hk7
   obtain ⟨M,hM⟩ : ∃ M,M = mskN L 6 := ⟨_,rfl⟩
   have HMM : Hid (msk L = M) := hM.symm
   rw [← hM]
   clear hM
   go_wp2
   go_ret
   exact ⟨by rw [HMM.out]; rfl,HF.out⟩
theorem lst_ok {p : Int} {L : List Cp} (h : lst p L = 0) : L.Pairwise (fun x y => x.k < y.k) ∧ ∀ q ∈ L,p < (q.k : Int) ∧ q.chk = 0 := by
 induction L generalizing p with
 | nil => exact ⟨List.Pairwise.nil,fun q hq => by simp at hq⟩
 | cons q t ih =>
  rw [lst] at h
  by_cases h1 : q.chk ≠ 0
  ·rw [if_pos h1] at h; exact absurd h h1
  ·rw [if_neg h1] at h
   by_cases h2 : (q.k : Int) ≤ p
   ·rw [if_pos h2] at h; cases h
   ·rw [if_neg h2] at h
    obtain ⟨i1,i2⟩ := ih h
    refine ⟨List.Pairwise.cons (fun x hx => ?_) i1,fun x hx => ?_⟩
    ·have := (i2 x hx).1; omega
    ·rcases List.mem_cons.1 hx with rfl | hx
     ·exact ⟨by omega,by omega⟩
     ·have := i2 x hx; exact ⟨by omega,this.2⟩
theorem chk_k {q : Cp} (h : q.chk = 0) : q.k < 6 := by
 unfold Cp.chk chk at h
 by_cases c : 6 ≤ q.k
 ·rw [if_pos c] at h; cases h
 ·omega
theorem hasK_true {L : List Cp} {q : Cp} (h : q ∈ L) : hasK L q.k = true := by
 unfold hasK; rw [List.any_eq_true]; exact ⟨q,h,by simp⟩
theorem find_any (w : World) (ao : Option Addr) (len cap : Nat) (L : List Cp) (hl : L.length = len) (hs : Cs w ao L) (hk : ∀ q ∈ L,q.k < 256) (hm : len ≤ 1000000) (k : Nat) (hkk : k < 256) :
  Calls Tryz.prog 53 #[.slice ao len cap,.int .u8 (k : Int)] w fun e w' => ∃ r : Int,e = .returned (.int .i64 r) ∧ Fr Nobody w w' ∧ ((r = -1 ∧ hasK L k = false) ∨ ∃ i : Nat,r = i ∧ ∃ q : Cp,L[i]? = some q ∧ q.k = k ∧ hasK L k = true) := by
 have HL : Hid (L.length = len ∧ Cs w ao L ∧ ∀ q ∈ L,q.k < 256) := ⟨hl,hs,hk⟩
 clear hl hs hk
 go_enter Tryz.func53,Tryz.ntmps53
 go_wp2
 go_loopw [9] (fun c wr => ∃ j : Nat,j ≤ len ∧ c = .int .i64 j ∧ Fr Nobody w wr ∧ hasK (L.take j) k = false) (fun c _ => len - (intOf c).toNat)
 case atStart => exact ⟨0,Nat.zero_le _,rfl,Fr.refl _ _,by simp [hasK]⟩
 case round =>
  obtain ⟨j,hj,rfl,hf,hno⟩ := hrel
  have HF : Hid (Fr Nobody w wr) := hf
  have HN : Hid (hasK (L.take j) k = false) := hno
  clear hf hno
  by_cases hlt : j < len
  ·obtain ⟨q,hq⟩ : ∃ q,L[j]? = some q := ⟨_,List.getElem?_eq_getElem (by rw [HL.out.1]; exact hlt)⟩
   obtain ⟨g,o,hao,hall,hat⟩ := (HL.out.2.1.quiet HF.out).at j q hq
   subst hao
   have hk2 := HL.out.2.2 q (List.mem_of_getElem? hq)
   obtain ⟨c0,c1,c2,c3⟩ := hat
   have hlt' : (j : Int) < (len : Int) := by omega
   have HQ : Hid (L[j]? = some q) := hq
   clear hq hall
   by_cases he : q.k = k
   ·have HH : Hid (hasK L k = true) := by rw [← he]; exact hasK_true (List.mem_of_getElem? HQ.out)
    have HE : Hid (q.k = k) := he
    have he' : ((q.k : Int) == (k : Int)) = true := by rw [he]; simp
    clear he
    obtain ⟨qk,qa,qb,qc⟩ := q
    simp only at c0 c1 c2 c3 hk2 he'
    go_wp2
    go_ret
    exact ⟨(j : Int),rfl,HF.out.alloc _,.inr ⟨j,rfl,⟨qk,qa,qb,qc⟩,HQ.out,HE.out,HH.out⟩⟩
   ·have HH : Hid (hasK (L.take (j + 1)) k = false) := by show _ = _; rw [hasK_take_succ HQ.out,HN.out,decide_eq_false he]; rfl
    have he' : ((q.k : Int) == (k : Int)) = false := by rw [beq_eq_false_iff_ne]; omega
    clear he
    obtain ⟨qk,qa,qb,qc⟩ := q
    simp only at c0 c1 c2 c3 hk2 he'
    go_wp2
    go_roundw
    case rel => exact ⟨j + 1,by omega,by go_num,HF.out.alloc _,HH.out⟩
    case measure => simp [intOf]; omega
  ·have hlt' : ¬ (j : Int) < (len : Int) := by omega
   have HH : Hid (hasK L k = false) := by
    have := HN.out
    rw [List.take_of_length_le (by rw [HL.out.1]; omega)] at this
    exact this
   go_wp2
   go_ret
   exact ⟨-1,rfl,HF.out,.inl ⟨rfl,HH.out⟩⟩
end Go.Proofs.YtgifeckbflkkpaaGreatDoor
namespace Go.Proofs.YtgifeckbflkkpaaGreatDoor
open Go.RowKit
set_option linter.unusedVariables false
set_option maxHeartbeats 4000000
set_option maxRecDepth 100000
structure EnE where
 id : Nat
 ao : Option Addr
 cap : Nat
 C : List Cp
def EnE.cs (x : EnE) : List Value := [.int .u32 (x.id : Int),.slice x.ao x.C.length x.cap]
def erow (x : EnE) : Thing := Row 63 4 (.slice x.ao x.C.length x.cap) x.C.length (ccat x.C)
theorem Tryz.infoEnt : (Tryz.prog.info? 60).map (fun i => (i.zero,i.size,i.bytes)) = some (some (.agg #[.int .u32 0,.slice none 0 0]),2,32) := by kernel_rfl
theorem info3w {P : Program} {t : TypeId} {z : Option Value} {s b : Nat} (h : (P.info? t).map (fun i => (i.zero,i.size,i.bytes)) = some (z,s,b)) : ∃ i,P.info? t = some i ∧ i.zero = z ∧ i.size = s ∧ i.bytes = b := by
 cases hi : P.info? t with
 | none => rw [hi] at h; simp at h
 | some i => rw [hi] at h; simp at h; exact ⟨i,rfl,h.1,h.2.1,h.2.2⟩
theorem ene_one (x : EnE) : ∀ u ∈ x.cs.toArray.toList,u.oneCell' = true := by
 intro u hu
 simp [EnE.cs] at hu
 rcases hu with rfl | rfl <;> rfl
def EntsT (ao : Option Addr) (cap : Nat) (L : List EnE) : Thing := Ex (fun _ : Unit => Row 60 2 (.slice ao L.length cap) L.length (cat EnE.cs L) :: L.map erow)
theorem Own.ents {w0 w : World} {l : List Thing} {ao : Option Addr} {cap : Nat} {L : List EnE} (h : Own w0 w ((Row 60 2 (.slice ao L.length cap) L.length (cat EnE.cs L) :: L.map erow) ++ l)) : Own w0 w (EntsT ao cap L :: l) := Own.ex_iff.2 ⟨(),h⟩
theorem Own.entAt {w0 w : World} {l : List Thing} {ao : Option Addr} {cap : Nat} {L : List EnE} (h : Own w0 w (EntsT ao cap L :: l)) {j : Nat} {x : EnE} (hx : L[j]? = some x) :
  (∃ g,ao = some ⟨g,0,none⟩ ∧ w.cell? ⟨g,j * 2,none⟩ = some (.int .u32 (x.id : Int)) ∧ w.cell? ⟨g,j * 2 + 1,none⟩ = some (.slice x.ao x.C.length x.cap)) ∧ Cs w x.ao x.C := by
 obtain ⟨_,h1⟩ := Own.ex_iff.1 h
 have hj := (List.getElem?_eq_some_iff.1 hx).1
 constructor
 ·obtain ⟨g,cp,hv,_⟩ := row_shape h1.row (by omega)
  have hva := (Value.slice.inj hv).1
  subst hva
  have hr := h1.row
  refine ⟨g,rfl,?_,?_⟩
  ·rw [hr.cellAt _ (by omega)]
   exact cat_at EnE.cs 2 (fun _ => rfl) L j 0 x hx (by decide)
  ·rw [hr.cellAt _ (by omega)]
   exact cat_at EnE.cs 2 (fun _ => rfl) L j 1 x hx (by decide)
 ·obtain ⟨L1,L2,rfl⟩ := List.append_of_mem (List.mem_of_getElem? hx)
  have h2 : Own w0 w (erow x :: (L1.map erow ++ (L2.map erow ++ l))) := by
   have h3 : Own w0 w ((L1 ++ x :: L2).map erow ++ l) := h1.tail
   refine h3.perm ?_
   have e : (L1 ++ x :: L2).map erow ++ l = L1.map erow ++ (erow x :: (L2.map erow ++ l)) := by simp
   rw [e]
   exact List.perm_middle
  exact Own.cs (h2.view (by decide)) rfl
structure FrOf (w : World) where
 val : World
 fr : Fr Nobody w val
instance (w : World) : Inhabited (FrOf w) := ⟨⟨w,Fr.refl _ _⟩⟩
theorem wp_region_fr {P : Program} {id : Nat} {Q : Exit → Act → World → Prop} {a : Act} {w : World} {l : List Oper} (hm : P.follows .mixedOrders = true) (hB : Region.lexB .any l.toArray = true)
  (h : wpQuiet P l.toArray (fun w' => ∃ f : FrOf w,w' = f.val) (fun a' => ∀ w',(∃ f : FrOf w,w' = f.val) → Q .normal a' w') l a) : (Code.region id l.toArray true).wp P Q a w :=
 wp_region_quiet (C := fun w' => ∃ f : FrOf w,w' = f.val) hm hB ⟨⟨_,(Fr.refl _ w).drew⟩,rfl⟩ (by simpa using h)
theorem Calls.fr_of {P : Program} {f : FuncId} {args : Array Value} {w : World} {v : Value} {g : FrOf w}
  (h : Calls P f args g.val fun e w' => e = .returned v ∧ Fr Nobody g.val w') : Calls P f args g.val fun e w'' => e = .returned v ∧ ∃ f : FrOf w,w'' = f.val :=
 h.mono fun _ w' ⟨he,hf⟩ => ⟨he,⟨w',g.fr.trans hf⟩,rfl⟩
theorem Calls.fr_same {P : Program} {f : FuncId} {args : Array Value} {w : World} {v : Value} {g : FrOf w}
  (h : Calls P f args g.val fun e w' => e = .returned v ∧ w' = g.val) : Calls P f args g.val fun e w'' => e = .returned v ∧ ∃ f : FrOf w,w'' = f.val :=
 h.mono fun _ w' ⟨he,hf⟩ => ⟨he,g,hf⟩
theorem step_allW {P : Program} {w0 w : World} {l : List Thing} {ops : Array Oper} {o : Oper} {a : Act} {K : Act → World → Prop} {Q : Exit → Act → World → Prop} {E : Prop} (hgd : o.guard = none) (sx x : Operand) (t : TypeId)
  (ho : o.op = .call { callee := .builtin .append,args := #[sx,x],argTypes := #[t,t] })
  (e : TypeId) (i : TypeInfo) (z : Value) (size bytes : Nat) (ht : P.underlying t = some (.slice e)) (hi : P.info? e = some i) (hz : i.zero = some z)
  (hsize : i.size = size) (hby : i.bytes = bytes) (hzs : z.cells.size = size) (hsz : 0 < size)
  (v : Value) (n : Nat) (xs : List Value) (hs : a.eval sx = v) (xa : Option Addr) (m xc : Nat) (ys : List Value) (hx : a.eval x = .slice xa m xc) (hown : Own w0 w (Row e size v n xs :: l)) (hr : w.ownsRow 0 e size (.slice xa m xc) m ys) (h1 : ∀ u ∈ ys,u.oneCell' = true)
  (h63 : n + m ≤ maxLen) (hbytes : (n + m) * bytes ≤ 140737488355328)
  (h : ∀ ao cap w',Own w0 w' (Row e size (.slice ao (n + m) cap) (n + m) (xs ++ ys) :: l) → K (a.put o.dst (.slice ao (n + m) cap)) w') :
  if Region.wanted o (yielded ops a.tmps) = true then Oper.wp P o a w K Q else E := by
 have hw : Region.wanted o (yielded ops a.tmps) = true := by simp [Region.wanted,hgd]
 rw [if_pos hw]
 rcases Nat.eq_zero_or_pos m with h0 | h0
 ·subst h0
  have hy : ys = [] := List.eq_nil_of_length_eq_zero (by rw [hr.1]; simp)
  subst hy
  obtain ⟨va,vc,rfl⟩ := row_any hown.row
  have hr := run_append_empty (P := P) w 0 t o.type e i size ht hi _ n xs hown.row xa xc
  unfold Oper.wp
  simp [execOp,ho,resolve,invoke,builtin,hs,hx,hr,Result.andThen]
  have := h va vc w (by simpa using hown)
  simp at this
  exact this
 ·obtain ⟨g,cap,hv,_⟩ := row_shape hr h0
  have hxa := (Value.slice.inj hv).1
  subst hxa
  refine wp_append_lies w sx x t ho 0 e i z size bytes ht hi hz hsize hby hzs hsz v n xs hs hown.row ⟨g,0,none⟩ m xc ys hx hr.1 (fun j u hu => by
   rw [addr_add,Nat.zero_add,hr.cellAt j (by rw [← hr.1]; exact (List.getElem?_eq_some_iff.1 hu).1)]; exact hu) h1 h0 h63 hbytes (Nat.zero_le _) _ rfl ?_
  intro g' cap' w' h2 h3 h4 h5
  refine h _ _ w' (hown.grow h2 h3 (fun k hk => ?_))
  have hk' : g' = k := by simpa [Value.ownBlock] using hk
  subst hk'
  rcases h4 with h4 | h4
  ·exact .inl h4
  ·exact .inr (by omega)
instance : DecidableEq Cp := fun x y => decidable_of_iff (x.k = y.k ∧ x.a = y.a ∧ x.b = y.b ∧ x.c = y.c) (by cases x; cases y; simp)
theorem sorted_one {α : Type} (f : α → Nat) (L : List α) : ∀ (M : List α),L.Pairwise (fun a b => f a < f b) → M.Pairwise (fun a b => f a ≤ f b) → M.Perm L → M = L := by
 induction L with
 | nil => intro M _ _ h; exact h.eq_nil
 | cons x t ih =>
  intro M hL hM h
  cases M with
  | nil => exact absurd h.length_eq (by simp)
  | cons y s =>
   have hy : y ∈ x :: t := h.subset (by simp)
   have hx : x ∈ y :: s := h.symm.subset (by simp)
   have e : y = x := by
    rcases List.mem_cons.1 hy with e | hy
    ·exact e
    ·have h1 := (List.pairwise_cons.1 hL).1 y hy
     rcases List.mem_cons.1 hx with e | hx
     ·exact e.symm
     ·have h2 := (List.pairwise_cons.1 hM).1 x hx
      omega
   subst e
   rw [ih s (List.pairwise_cons.1 hL).2 (List.pairwise_cons.1 hM).2 h.cons_inv]
theorem up_mem {α : Type} (f : α → Nat) {L M : List α} (hL : L.Pairwise (fun a b => f a < f b)) (hM : M.Pairwise (fun a b => f a < f b)) (h : ∀ x,x ∈ L ↔ x ∈ M) : L = M := by
 have n : ∀ {A : List α},A.Pairwise (fun a b => f a < f b) → A.Nodup := fun h => h.imp (fun h e => by subst e; omega)
 exact sorted_one f M L hM (hL.imp (fun h => by omega)) ((List.perm_ext_iff_of_nodup (n hL) (n hM)).2 h)
abbrev En := Nat × List Cp
def un (C : List Cp) : Bool := C.any (fun c => !ktold c.k)
def ent1 (p : Nat) (x : En) : Nat := if x.1 / 1024 < 1 ∨ x.1 ≤ p then 4 else if lst (-1) x.2 ≠ 0 then lst (-1) x.2 else if un x.2 = true then 4 else 0
def fm : Nat → List En → Nat
 | _,[] => 0
 | p,x :: t => if ent1 p x ≠ 0 then ent1 p x else fm x.1 t
def Good (C : List Cp) : Prop := C.Pairwise (fun x y => x.k < y.k) ∧ ∀ q ∈ C,q.k < 6
structure Snap (L : List En) : Prop where
 up : L.Pairwise (fun a b => a.1 < b.1)
 good : ∀ x ∈ L,Good x.2
theorem ent1_ok {p : Nat} {x : En} (h : ent1 p x = 0) : 1 ≤ x.1 / 1024 ∧ p < x.1 ∧ lst (-1) x.2 = 0 ∧ un x.2 = false := by
 unfold ent1 at h
 split at h
 ·cases h
 ·split at h
  ·rename_i h1; exact absurd h h1
  ·split at h
   ·cases h
   ·rename_i h1 h2 h3
    simp only [not_or] at h1
    exact ⟨by omega,by omega,by simpa using h2,by simpa using h3⟩
theorem good_of {C : List Cp} (h : lst (-1) C = 0) : Good C := ⟨(lst_ok h).1,fun q hq => chk_k ((lst_ok h).2 q hq).2⟩
theorem fm_ok {L : List En} : ∀ {p : Nat},fm p L = 0 → Snap L ∧ ∀ x ∈ L,p < x.1 := by
 induction L with
 | nil => intro p _; exact ⟨⟨List.Pairwise.nil,fun x hx => by cases hx⟩,fun x hx => by cases hx⟩
 | cons y t ih =>
  intro p h
  rw [fm] at h
  split at h
  ·rename_i h1; exact absurd h h1
  ·rename_i h1
   have h1 : ent1 p y = 0 := by simpa using h1
   obtain ⟨h2,h3⟩ := ih h
   obtain ⟨e1,e2,e3,e4⟩ := ent1_ok h1
   refine ⟨⟨List.pairwise_cons.2 ⟨fun x hx => h3 x hx,h2.up⟩,fun x hx => ?_⟩,fun x hx => ?_⟩
   ·rcases List.mem_cons.1 hx with rfl | hx
    ·exact good_of e3
    ·exact h2.good x hx
   ·rcases List.mem_cons.1 hx with rfl | hx
    ·exact e2
    ·have := h3 x hx; omega
theorem Snap.of {L : List En} (h : fm 0 L = 0) : Snap L := (fm_ok h).1
theorem Snap.tail {x : En} {L : List En} (h : Snap (x :: L)) : Snap L := ⟨(List.pairwise_cons.1 h.up).2,fun y hy => h.good y (List.mem_cons_of_mem _ hy)⟩
def fst (L : List Cp) (k : Nat) : Option Cp := L.find? (fun q => decide (q.k = k))
def lostN (A B : List Cp) : Nat → Nat
 | 0 => 0
 | n + 1 => lostN A B n + if hasK A n && !hasK B n then 2 ^ n else 0
def lostm (A B : List Cp) : Nat := lostN A B 6
structure Chg where
 id : Nat
 lost : Nat
 new : List Cp
 set : List Cp
def isNew (A : List Cp) (x : Cp) : Bool := !hasK A x.k
def isSet (A : List Cp) (x : Cp) : Bool := match fst A x.k with
 | none => false
 | some y => !decide (y = x)
def chg1 (a b : En) : Chg := ⟨b.1,lostm a.2 b.2,b.2.filter (isNew a.2),b.2.filter (isSet a.2)⟩
def Chg.nil (c : Chg) : Bool := decide (c.lost = 0) && c.new.isEmpty && c.set.isEmpty
structure Dl where
 gone : List Nat
 come : List En
 chg : List Chg
def addG (g : Nat) (d : Dl) : Dl := ⟨g :: d.gone,d.come,d.chg⟩
def addE (e : En) (d : Dl) : Dl := ⟨d.gone,e :: d.come,d.chg⟩
def addC (c : Chg) (d : Dl) : Dl := ⟨d.gone,d.come,if c.nil then d.chg else c :: d.chg⟩
def btw : List En → List En → Dl
 | [],[] => ⟨[],[],[]⟩
 | w :: ws,[] => addG w.1 (btw ws [])
 | [],n :: ns => addE n (btw [] ns)
 | w :: ws,n :: ns => if w.1 < n.1 then addG w.1 (btw ws (n :: ns)) else if n.1 < w.1 then addE n (btw (w :: ws) ns) else addC (chg1 w n) (btw ws ns)
termination_by a b => a.length + b.length
def fstE (L : List En) (i : Nat) : Option En := L.find? (fun e => decide (e.1 = i))
def chgO (W : List En) (e : En) : Option Chg := (fstE W e.1).bind (fun w => if (chg1 w e).nil then none else some (chg1 w e))
def dlt (W N : List En) : Dl := ⟨(W.filter (fun e => (fstE N e.1).isNone)).map (·.1),N.filter (fun e => (fstE W e.1).isNone),N.filterMap (chgO W)⟩
theorem fstE_ne {x : En} {L : List En} {i : Nat} (h : x.1 ≠ i) : fstE (x :: L) i = fstE L i := by simp [fstE,List.find?,h]
theorem fstE_eq {x : En} {L : List En} {i : Nat} (h : x.1 = i) : fstE (x :: L) i = some x := by simp [fstE,List.find?,h]
theorem fstE_none {L : List En} {i : Nat} (h : ∀ x ∈ L,x.1 ≠ i) : fstE L i = none := by
 rw [fstE,List.find?_eq_none]
 intro x hx
 simpa using h x hx
theorem fl_congr {α : Type} {L : List α} {p q : α → Bool} (h : ∀ x ∈ L,p x = q x) : L.filter p = L.filter q := List.filter_congr h
theorem fm_congr {α β : Type} {L : List α} {p q : α → Option β} (h : ∀ x ∈ L,p x = q x) : L.filterMap p = L.filterMap q := by
 induction L with
 | nil => rfl
 | cons a L ih => rw [List.filterMap_cons,List.filterMap_cons,h a (by simp),ih (fun x hx => h x (List.mem_cons_of_mem _ hx))]
theorem btw_dlt (W N : List En) : W.Pairwise (fun a b => a.1 < b.1) → N.Pairwise (fun a b => a.1 < b.1) → btw W N = dlt W N := by
 fun_induction btw W N with
 | case1 => intro _ _; rfl
 | case2 w ws ih =>
  intro hW hN
  rw [ih (List.pairwise_cons.1 hW).2 hN]
  simp [addG,dlt,fstE]
 | case3 n ns ih =>
  intro hW hN
  rw [ih hW (List.pairwise_cons.1 hN).2]
  have e : chgO [] n = none := rfl
  simp [addE,dlt,fstE,e]
 | case4 w ws n ns h ih =>
  intro hW hN
  rw [ih (List.pairwise_cons.1 hW).2 hN]
  have hw : ∀ e ∈ n :: ns,e.1 ≠ w.1 := fun e he => by
   rcases List.mem_cons.1 he with rfl | he
   ·omega
   ·have := (List.pairwise_cons.1 hN).1 e he; omega
  have a1 : (n :: ns).filter (fun e => (fstE (w :: ws) e.1).isNone) = (n :: ns).filter (fun e => (fstE ws e.1).isNone) := fl_congr fun x hx => by rw [fstE_ne (fun e => hw x hx e.symm)]
  have a2 : (n :: ns).filterMap (chgO (w :: ws)) = (n :: ns).filterMap (chgO ws) := fm_congr fun x hx => by unfold chgO; rw [fstE_ne (fun e => hw x hx e.symm)]
  unfold dlt addG
  rw [a1,a2]
  have a3 : (fstE (n :: ns) w.1).isNone = true := by rw [fstE_none hw]; rfl
  rw [List.filter_cons (xs := ws),if_pos a3]
  rfl
 | case5 w ws n ns h h2 ih =>
  intro hW hN
  rw [ih hW (List.pairwise_cons.1 hN).2]
  have hn : ∀ e ∈ w :: ws,e.1 ≠ n.1 := fun e he => by
   rcases List.mem_cons.1 he with rfl | he
   ·omega
   ·have := (List.pairwise_cons.1 hW).1 e he; omega
  have a1 : (w :: ws).filter (fun e => (fstE (n :: ns) e.1).isNone) = (w :: ws).filter (fun e => (fstE ns e.1).isNone) := fl_congr fun x hx => by rw [fstE_ne (fun e => hn x hx e.symm)]
  have a0 := fstE_none hn
  unfold dlt addE
  rw [a1]
  have a3 : (fstE (w :: ws) n.1).isNone = true := by rw [a0]; rfl
  have a4 : chgO (w :: ws) n = none := by unfold chgO; rw [a0]; rfl
  rw [List.filter_cons (xs := ns),if_pos a3,List.filterMap_cons,a4]
 | case6 w ws n ns h h2 ih =>
  intro hW hN
  have he : w.1 = n.1 := by omega
  rw [ih (List.pairwise_cons.1 hW).2 (List.pairwise_cons.1 hN).2]
  have hn : ∀ e ∈ ws,e.1 ≠ n.1 := fun e he' => by have := (List.pairwise_cons.1 hW).1 e he'; omega
  have hw : ∀ e ∈ ns,e.1 ≠ w.1 := fun e he' => by have := (List.pairwise_cons.1 hN).1 e he'; omega
  have a1 : (w :: ws).filter (fun e => (fstE (n :: ns) e.1).isNone) = ws.filter (fun e => (fstE ns e.1).isNone) := by
   rw [List.filter_cons,fstE_eq he.symm]
   simp only [Option.isNone_some]
   exact fl_congr fun x hx => by rw [fstE_ne (fun e => hn x hx e.symm)]
  have a2 : (n :: ns).filter (fun e => (fstE (w :: ws) e.1).isNone) = ns.filter (fun e => (fstE ws e.1).isNone) := by
   rw [List.filter_cons,fstE_eq he]
   simp only [Option.isNone_some]
   exact fl_congr fun x hx => by rw [fstE_ne (fun e => hw x hx e.symm)]
  have a3 : ns.filterMap (chgO (w :: ws)) = ns.filterMap (chgO ws) := fm_congr fun x hx => by unfold chgO; rw [fstE_ne (fun e => hw x hx e.symm)]
  have a4 : chgO (w :: ws) n = if (chg1 w n).nil then none else some (chg1 w n) := by unfold chgO; rw [fstE_eq he]; rfl
  unfold dlt addC
  rw [a1,a2,List.filterMap_cons,a3,a4]
  split <;> rfl
def EntsAt (w : World) (ao : Option Addr) (L : List EnE) : Prop := (L = [] ∨ ∃ g o,ao = some ⟨g,o,none⟩ ∧ ∀ (j : Nat) x,L[j]? = some x → w.cell? ⟨g,o + j * 2,none⟩ = some (.int .u32 (x.id : Int)) ∧ w.cell? ⟨g,o + j * 2 + 1,none⟩ = some (.slice x.ao x.C.length x.cap)) ∧ ∀ x ∈ L,Cs w x.ao x.C
theorem EntsAt.quiet {w w' : World} {ao : Option Addr} {L : List EnE} (h : EntsAt w ao L) (hf : Fr Nobody w w') : EntsAt w' ao L := by
 refine ⟨?_,fun x hx => (h.2 x hx).quiet hf⟩
 rcases h.1 with h | ⟨g,o,ha,hc⟩
 ·exact .inl h
 ·refine .inr ⟨g,o,ha,fun j x hx => ?_⟩
  obtain ⟨h0,h1⟩ := hc j x hx
  have hb := World.block_lt_of_cell? w _ h0
  exact ⟨(hf.cell (p := ⟨g,o + j * 2,none⟩) hb id).trans h0,(hf.cell (p := ⟨g,o + j * 2 + 1,none⟩) hb id).trans h1⟩
theorem EntsAt.at {w : World} {ao : Option Addr} {L : List EnE} (h : EntsAt w ao L) {j : Nat} {x : EnE} (hx : L[j]? = some x) : ∃ g o,ao = some ⟨g,o,none⟩ ∧ w.cell? ⟨g,o + j * 2,none⟩ = some (.int .u32 (x.id : Int)) ∧ w.cell? ⟨g,o + j * 2 + 1,none⟩ = some (.slice x.ao x.C.length x.cap) ∧ Cs w x.ao x.C := by
 rcases h.1 with h0 | ⟨g,o,ha,hc⟩
 ·subst h0; simp at hx
 ·exact ⟨g,o,ha,(hc j x hx).1,(hc j x hx).2,h.2 x (List.mem_of_getElem? hx)⟩
theorem Own.entsAt {w0 w : World} {l : List Thing} {ao : Option Addr} {cap : Nat} {L : List EnE} (h : Own w0 w (EntsT ao cap L :: l)) : EntsAt w ao L := by
 refine ⟨?_,fun x hx => ?_⟩
 ·rcases Nat.eq_zero_or_pos L.length with h0 | h0
  ·exact .inl (List.eq_nil_of_length_eq_zero h0)
  ·obtain ⟨x0,hx0⟩ : ∃ x,L[0]? = some x := ⟨_,List.getElem?_eq_getElem h0⟩
   obtain ⟨⟨g,hg,_,_⟩,_⟩ := h.entAt hx0
   refine .inr ⟨g,0,hg,fun j x hx => ?_⟩
   obtain ⟨⟨g',hg',h1,h2⟩,_⟩ := h.entAt hx
   rw [hg] at hg'
   cases hg'
   rw [Nat.zero_add]
   exact ⟨h1,h2⟩
 ·obtain ⟨j,hj⟩ := List.getElem?_of_mem hx
  exact (h.entAt hj).2
def evs (L : List EnE) : List En := L.map (fun x => (x.id,x.C))
theorem evs_len (L : List EnE) : (evs L).length = L.length := by simp [evs]
theorem evs_at {L : List EnE} {j : Nat} {x : EnE} (h : L[j]? = some x) : (evs L)[j]? = some (x.id,x.C) := by simp [evs,h]
def EIn (L : List EnE) : Prop := ∀ x ∈ L,x.id < 4294967296 ∧ ∀ q ∈ x.C,q.k < 256
def csz : List EnE → Nat
 | [] => 0
 | x :: t => x.C.length + csz t
theorem csz_append (A B : List EnE) : csz (A ++ B) = csz A + csz B := by
 induction A with
 | nil => simp [csz]
 | cons x t ih => simp only [List.cons_append,csz,ih]; omega
theorem csz_take {L : List EnE} {j : Nat} {x : EnE} (h : L[j]? = some x) : csz (L.take (j + 1)) = csz (L.take j) + x.C.length := by
 rw [List.take_add_one,h,csz_append]; simp [csz]
theorem csz_take_le (L : List EnE) (j : Nat) : csz (L.take j) ≤ csz L := by
 have h := csz_append (L.take j) (L.drop j)
 rw [List.take_append_drop] at h
 omega
theorem csz_mem {L : List EnE} {x : EnE} (h : x ∈ L) : x.C.length ≤ csz L := by
 obtain ⟨j,hj⟩ := List.getElem?_of_mem h
 have h1 := csz_take hj
 have h2 := csz_take_le L (j + 1)
 omega
def esz (L : List EnE) : Nat := L.length + csz L
theorem few_any (w : World) (ao : Option Addr) (n cap : Nat) (L : List EnE) (hn : L.length = n) (h : EntsAt w ao L) (hz : esz L ≤ 1048576) :
  Calls Tryz.prog 10 #[.slice ao n cap] w fun e w' => e = .returned (.bool (decide (esz L ≤ 400))) ∧ Fr Nobody w w' := by
 have HL : Hid (L.length = n ∧ EntsAt w ao L) := ⟨hn,h⟩
 have HZ : Hid (esz L = n + csz L) := by show _ = _; unfold esz; rw [hn]
 have hz1 : n + csz L ≤ 1048576 := by unfold esz at hz; omega
 clear hn h hz
 go_enter Tryz.func10,Tryz.ntmps10
 go_wp2
 go_loopw [3,10] (fun s c wr => ∃ (j m : Nat),j ≤ n ∧ c = .int .i64 j ∧ s = .int .i64 m ∧ m = n + csz (L.take j) ∧ Fr Nobody w wr) (fun _ c _ => n - (intOf c).toNat)
 case atStart => exact ⟨0,n,Nat.zero_le _,rfl,rfl,by simp [csz],Fr.refl _ _⟩
 case round =>
  obtain ⟨j,m,hj,rfl,rfl,hm,hf⟩ := hrel
  have HF : Hid (Fr Nobody w wr) := hf
  have HM : Hid (m = n + csz (L.take j)) := hm
  have hm2 : m ≤ 1048576 := by have := csz_take_le L j; omega
  clear hf hm
  by_cases hlt : j < n
  ·obtain ⟨x,hx⟩ : ∃ x,L[j]? = some x := ⟨_,List.getElem?_eq_getElem (by rw [HL.out.1]; exact hlt)⟩
   obtain ⟨g,o,hao,c0,c1,_⟩ := (HL.out.2.quiet HF.out).at hx
   subst hao
   have HS : Hid (m + x.C.length = n + csz (L.take (j + 1))) := by show _ = _; rw [csz_take hx,HM.out]; omega
   have hs2 : m + x.C.length ≤ 1048576 := by have := csz_take_le L (j + 1); have := HS.out; omega
   have hlt' : (j : Int) < (n : Int) := by omega
   clear hx
   obtain ⟨xi,xa,xc,C⟩ := x
   simp only at c0 c1 HS hs2
   generalize C.length = cl at *
   go_wp2
   go_roundw
   case rel => exact ⟨j + 1,m + cl,by omega,by go_num,by go_num,HS.out,HF.out.alloc _⟩
   case measure => simp [intOf]; omega
  ·have hlt' : ¬ (j : Int) < (n : Int) := by omega
   have HT : Hid (esz L = m) := by show _ = _; rw [HZ.out,HM.out,List.take_of_length_le (by rw [HL.out.1]; omega)]
   clear HM
   by_cases h4 : m ≤ 400
   ·have h4' : (m : Int) ≤ 400 := by omega
    have HD : Hid (decide (esz L ≤ 400) = true) := by show _ = _; rw [HT.out]; exact decide_eq_true h4
    go_wp2
    go_ret
    exact ⟨by rw [HD.out]; simp,HF.out⟩
   ·have h4' : ¬ (m : Int) ≤ 400 := by omega
    have HD : Hid (decide (esz L ≤ 400) = false) := by show _ = _; rw [HT.out]; exact decide_eq_false h4
    go_wp2
    go_ret
    exact ⟨by rw [HD.out]; simp,HF.out⟩
end Go.Proofs.YtgifeckbflkkpaaGreatDoor
