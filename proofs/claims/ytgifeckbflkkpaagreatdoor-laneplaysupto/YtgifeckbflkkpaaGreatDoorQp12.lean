/- The pen of a packet: as long as there is room. -/
import Derived.Test.YtgifeckbflkkpaaGreatDoorQp11
import Derived.Test.YtgifeckbflkkpaaGreatDoorQp02
import Derived.Test.YtgifeckbflkkpaaGreatDoorQp09
import Derived.Lib.SlBytesConst
namespace Go.Proofs.YtgifeckbflkkpaaGreatDoor
open Go.RowKit
set_option linter.unusedVariables false
set_option maxHeartbeats 4000000
set_option maxRecDepth 100000
def penC (p b : Nat) : Thing := Cells p #[.pointer (some ⟨b,0,none⟩),.int .i64 0] 165
theorem note0 (w0 w : World) (l : List Thing) (p b : Nat) (h : Own w0 w (penC p b :: l)) :
  Calls Tryz.prog 151 #[.pointer (some ⟨p,0,none⟩),.int .i64 0] w fun e w' => e = .returned (.tuple #[]) ∧ Own w0 w' (penC p b :: l) := by
 unfold penC at h
 have q0 := Own.cell h 0
 have q1 := Own.cell h 1
 have q2 := Own.froz h 1
 simp at q0 q1
 have H : Hid (Own w0 _ _) := Own.setC h 1 (.int .i64 0)
 clear h
 go_enter Tryz.func151,Tryz.ntmps151
 go_wp2
 go_end0
 exact ⟨rfl,by unfold penC; simpa using H.out⟩
theorem pput (w0 w : World) (l : List Thing) (p b : Nat) (L : List Bool) (v n : Nat) (h : Own w0 w (penC p b :: WrT b L :: l)) (hn : n ≤ 64) (hv : v < 2 ^ n) (hv2 : v < 18446744073709551616) (hl : L.length + n ≤ 1048576) :
  Calls Tryz.prog 129 #[.pointer (some ⟨p,0,none⟩),.int .u64 v,.int .i64 n] w fun e w' => e = .returned (.tuple #[]) ∧ Own w0 w' (penC p b :: WrT b (L ++ bitsN n v) :: l) := by
 have H1 : Hid (Calls _ _ _ _ _) := putW_own w0 w _ b L v n _ _ rfl rfl h.two hn hv hv2 hl
 unfold penC at h
 have q0 := Own.cell h 0
 simp at q0
 clear h hv hv2 hl
 go_enter Tryz.func129,Tryz.ntmps129
 go_wp2_with fail
 refine H1.out.mono ?_
 rintro e w1 ⟨rfl,h1⟩
 have H2 : Hid (Calls _ _ _ _ _) := note0 w0 w1 _ p b h1.two
 clear h1 H1 q0
 go_wp2_with fail
 refine H2.out.mono ?_
 rintro e w2 ⟨rfl,h2⟩
 have H3 : Hid (Own w0 w2 _) := h2
 clear h2 H2
 go_wp2
 go_end0
 exact ⟨rfl,H3.out⟩
theorem pputVar (w0 w : World) (l : List Thing) (p b : Nat) (L : List Bool) (v : Nat) (h : Own w0 w (penC p b :: WrT b L :: l)) (hv : v < 18446744073709551616) (hl : L.length + 5 * grp v ≤ 1048576) :
  Calls Tryz.prog 128 #[.pointer (some ⟨p,0,none⟩),.int .u64 v] w fun e w' => e = .returned (.tuple #[]) ∧ Own w0 w' (penC p b :: WrT b (L ++ var v) :: l) := by
 have H1 : Hid (Calls _ _ _ _ _) := putVarW w0 w _ b L v h.two hv hl
 unfold penC at h
 have q0 := Own.cell h 0
 simp at q0
 clear h hv hl
 go_enter Tryz.func128,Tryz.ntmps128
 go_wp2_with fail
 refine H1.out.mono ?_
 rintro e w1 ⟨rfl,h1⟩
 have H2 : Hid (Calls _ _ _ _ _) := note0 w0 w1 _ p b h1.two
 clear h1 H1 q0
 go_wp2_with fail
 refine H2.out.mono ?_
 rintro e w2 ⟨rfl,h2⟩
 have H3 : Hid (Own w0 w2 _) := h2
 clear h2 H2
 go_wp2
 go_end0
 exact ⟨rfl,H3.out⟩
theorem pputIn (w0 w : World) (l : List Thing) (p b : Nat) (L : List Bool) (n lo hi : Int) (d : Nat) (hd : n = lo + (d : Int)) (h : Own w0 w (penC p b :: WrT b L :: l)) (h0 : -9223372036854775808 ≤ lo) (h1 : hi ≤ 9223372036854775807) (ha : lo ≤ n) (hb : n ≤ hi) (hl : L.length + 64 ≤ 1048576) :
  Calls Tryz.prog 127 #[.pointer (some ⟨p,0,none⟩),.int .i64 n,.int .i64 lo,.int .i64 hi] w fun e w' => e = .returned (.tuple #[]) ∧ Own w0 w' (penC p b :: WrT b (L ++ bitsN (wid lo hi) d) :: l) := by
 have H1 : Hid (Calls _ _ _ _ _) := putInW w0 w _ b L n lo hi d hd h.two h0 h1 ha hb hl
 unfold penC at h
 have q0 := Own.cell h 0
 simp at q0
 clear h hd hl h0 h1 ha hb
 go_enter Tryz.func127,Tryz.ntmps127
 go_wp2_with fail
 refine H1.out.mono ?_
 rintro e w1 ⟨rfl,h1⟩
 have H2 : Hid (Calls _ _ _ _ _) := note0 w0 w1 _ p b h1.two
 clear h1 H1 q0
 go_wp2_with fail
 refine H2.out.mono ?_
 rintro e w2 ⟨rfl,h2⟩
 have H3 : Hid (Own w0 w2 _) := h2
 clear h2 H2
 go_wp2
 go_end0
 exact ⟨rfl,H3.out⟩
theorem pcount (w0 w : World) (l : List Thing) (p b : Nat) (L : List Bool) (n : Nat) (h : Own w0 w (penC p b :: WrT b L :: l)) (hv : n < 9223372036854775808) (hl : L.length + 5 * grp n ≤ 1048576) :
  Calls Tryz.prog 155 #[.pointer (some ⟨p,0,none⟩),.int .i64 n] w fun e w' => e = .returned (.tuple #[]) ∧ Own w0 w' (penC p b :: WrT b (L ++ var n) :: l) := by
 have H1 : Hid (Calls _ _ _ _ _) := pputVar w0 w l p b L n h (by omega) hl
 clear h hl
 go_enter Tryz.func155,Tryz.ntmps155
 go_wp2_with fail
 refine H1.out.mono ?_
 rintro e w1 ⟨rfl,h1⟩
 have H3 : Hid (Own w0 w1 _) := h1
 clear h1 H1
 go_wp2
 go_end0
 exact ⟨rfl,H3.out⟩
def hvs (k c e t s : Nat) : Array Value := #[.int .u8 (k : Int),.int .u8 (c : Int),.int .u32 (e : Int),.int .u32 (t : Int),.int .u32 (s : Int)]
structure HIn (k c e t s : Nat) : Prop where
 k : k < 256
 c : c < 256
 e : e < 4294967296
 t : t < 4294967296
 s : s < 4294967296
def hasT (k : Nat) : Bool := decide (k = 1) || decide (k = 2) || decide (k = 3)
theorem hasTick_any (w : World) (k : Nat) (hk : k < 256) : Calls Tryz.prog 96 #[.int .u8 (k : Int)] w fun e w' => e = .returned (.bool (hasT k)) ∧ w' = w := by
 by_cases h1 : k = 1
 ·subst h1
  go_enter Tryz.func96,Tryz.ntmps96
  go_wp2
  go_ret
  exact ⟨rfl,rfl⟩
 ·have e1 : ((k : Int) == 1) = false := by rw [beq_eq_false_iff_ne]; omega
  by_cases h2 : k = 2
  ·subst h2
   go_enter Tryz.func96,Tryz.ntmps96
   go_wp2
   go_ret
   exact ⟨rfl,rfl⟩
  ·have e2 : ((k : Int) == 2) = false := by rw [beq_eq_false_iff_ne]; omega
   by_cases h3 : k = 3
   ·subst h3
    go_enter Tryz.func96,Tryz.ntmps96
    go_wp2
    go_ret
    exact ⟨rfl,rfl⟩
   ·have e3 : ((k : Int) == 3) = false := by rw [beq_eq_false_iff_ne]; omega
    have hT : hasT k = false := by unfold hasT; simp [h1,h2,h3]
    rw [hT]
    clear h1 h2 h3 hT
    go_enter Tryz.func96,Tryz.ntmps96
    go_wp2
    go_ret
    exact ⟨rfl,rfl⟩
def tfit (k t : Nat) : Bool := hasT k || decide (t = 0)
theorem tickFits_any (w : World) (k c e t s : Nat) (hI : HIn k c e t s) : Calls Tryz.prog 125 #[.agg (hvs k c e t s)] w fun x w' => x = .returned (.bool (tfit k t)) ∧ Fr Nobody w w' := by
 have HH : Hid (∀ W,Calls Tryz.prog 96 #[.int .u8 (k : Int)] W fun e w' => e = .returned (.bool (hasT k)) ∧ w' = W) := fun W => hasTick_any W k hI.k
 have HF : Hid (∀ o,Fr Nobody w (w.alloc o)) := fun o => (Fr.refl _ _).alloc o
 unfold tfit hvs
 clear hI
 generalize hasT k = r at *
 cases r
 ·by_cases ht : t = 0
  ·subst ht
   go_enter Tryz.func125,Tryz.ntmps125
   go_wp2_with fail
   refine (HH.out _).mono ?_
   rintro e w' ⟨rfl,rfl⟩
   go_wp2
   go_ret
   exact ⟨rfl,HF.out _⟩
  ·have e1 : ((t : Int) == 0) = false := by rw [beq_eq_false_iff_ne]; omega
   rw [decide_eq_false ht]
   clear ht
   go_enter Tryz.func125,Tryz.ntmps125
   go_wp2_with fail
   refine (HH.out _).mono ?_
   rintro e w' ⟨rfl,rfl⟩
   go_wp2
   go_ret
   exact ⟨rfl,HF.out _⟩
 ·go_enter Tryz.func125,Tryz.ntmps125
  go_wp2_with fail
  refine (HH.out _).mono ?_
  rintro e w' ⟨rfl,rfl⟩
  go_wp2
  go_ret
  exact ⟨rfl,HF.out _⟩
def bfit (k t s : Nat) : Bool := if k = 2 then decide (s < t) else decide (s = 0)
theorem baseFits_any (w : World) (k c e t s : Nat) (hI : HIn k c e t s) : Calls Tryz.prog 126 #[.agg (hvs k c e t s)] w fun x w' => x = .returned (.bool (bfit k t s)) ∧ Fr Nobody w w' := by
 have HF : Hid (∀ o,Fr Nobody w (w.alloc o)) := fun o => (Fr.refl _ _).alloc o
 unfold bfit hvs
 clear hI
 by_cases hk : k = 2
 ·subst hk
  rw [if_pos rfl]
  by_cases h : s < t
  ·have h' : (s : Int) < (t : Int) := by omega
   rw [decide_eq_true h]
   go_enter Tryz.func126,Tryz.ntmps126
   go_wp2
   go_ret
   exact ⟨by simp,HF.out _⟩
  ·have h' : ¬ (s : Int) < (t : Int) := by omega
   rw [decide_eq_false h]
   go_enter Tryz.func126,Tryz.ntmps126
   go_wp2
   go_ret
   exact ⟨by simp,HF.out _⟩
 ·have e1 : ((k : Int) == 2) = false := by rw [beq_eq_false_iff_ne]; omega
  rw [if_neg hk]
  by_cases h : s = 0
  ·subst h
   go_enter Tryz.func126,Tryz.ntmps126
   go_wp2
   go_ret
   exact ⟨rfl,HF.out _⟩
  ·have e2 : ((s : Int) == 0) = false := by rw [beq_eq_false_iff_ne]; omega
   rw [decide_eq_false h]
   clear h hk
   go_enter Tryz.func126,Tryz.ntmps126
   go_wp2
   go_ret
   exact ⟨by simp,HF.out _⟩
def hchk (k c e t s : Nat) : Nat := if k < 1 ∨ 5 < k ∨ 16 ≤ c then 1 else if e = 0 ∨ tfit k t = false ∨ bfit k t s = false then 4 else 0
structure Right (k c e t s : Nat) : Prop where
 k1 : 1 ≤ k
 k5 : k ≤ 5
 c15 : c ≤ 15
 e1 : 1 ≤ e
 e32 : e < 4294967296
 t32 : t < 4294967296
 s32 : s < 4294967296
 tf : tfit k t = true
 bf : bfit k t s = true
theorem Right.hIn {k c e t s : Nat} (h : Right k c e t s) : HIn k c e t s := ⟨by have := h.k5; omega,by have := h.c15; omega,h.e32,h.t32,h.s32⟩
def headB (k c e t s : Nat) : List Bool := bitsN (wid 1 5) (k - 1) ++ bitsN (wid 0 15) c ++ var e ++ (if hasT k = true then bitsN 32 t else []) ++ (if k = 2 then var (t - s - 1) else [])
theorem wid15 : wid 1 5 = 3 := by decide +kernel
theorem wid015 : wid 0 15 = 4 := by decide +kernel
theorem grp32 (v : Nat) (h : v < 4294967296) : grp v ≤ 16 := (grp_bd v (by omega)).2
theorem headB_le (k c e t s : Nat) (he : e < 4294967296) (ht : t < 4294967296) : (headB k c e t s).length ≤ 300 := by
 unfold headB
 have h1 := grp32 e he
 have h2 := grp32 (t - s - 1) (by omega)
 simp only [List.length_append,length_bitsN,length_var,wid15,wid015]
 split <;> split <;> simp [length_bitsN,length_var] <;> omega
theorem phead (w0 w : World) (l : List Thing) (p b : Nat) (h : Own w0 w (penC p b :: WrT b [] :: l)) (k c e t s : Nat) (hR : Right k c e t s) :
  Calls Tryz.prog 85 #[.pointer (some ⟨p,0,none⟩),.agg (hvs k c e t s)] w fun x w' => x = .returned (.tuple #[]) ∧ Own w0 w' (penC p b :: WrT b (headB k c e t s) :: l) := by
 have hB := (h.allocC (hvs k c e t s) 29).two.in23
 have q0 := hB.three.cell 0
 simp [hvs] at q0
 have ge := grp32 e hR.e32
 have gt := grp32 (t - s - 1) (by have := hR.t32; omega)
 have H1 : Hid (Calls _ _ _ _ _) := pputIn w0 _ _ p b [] (k : Int) 1 5 (k - 1) (by have := hR.k1; omega) hB (by omega) (by omega) (by have := hR.k1; omega) (by have := hR.k5; omega) (by simp)
 have HR : Hid (Right k c e t s) := hR
 have hk8 : k < 256 := hR.hIn.k
 have hc8 : c < 256 := hR.hIn.c
 have he8 : e < 4294967296 := hR.e32
 have ht8 : t < 4294967296 := hR.t32
 have hs8 : s < 4294967296 := hR.s32
 clear h hB hR
 unfold hvs
 go_enter Tryz.func85,Tryz.ntmps85
 go_wp2_with fail
 refine H1.out.mono ?_
 rintro x w1 ⟨rfl,h1⟩
 have q1 := h1.three.cell 1
 simp [hvs] at q1
 have H2 : Hid (Calls _ _ _ _ _) := pputIn w0 _ _ p b _ (c : Int) 0 15 c (by omega) h1 (by omega) (by omega) (by omega) (by have := HR.out.c15; omega) (by simp [length_bitsN,wid15])
 clear h1 H1 q0
 go_wp2_with fail
 refine H2.out.mono ?_
 rintro x w2 ⟨rfl,h2⟩
 have q2 := h2.three.cell 2
 simp [hvs] at q2
 have H3 : Hid (Calls _ _ _ _ _) := pputVar w0 _ _ p b _ e h2 (by omega) (by simp [length_bitsN,wid15,wid015]; omega)
 clear h2 H2 q1
 go_wp2_with fail
 refine H3.out.mono ?_
 rintro x w3 ⟨rfl,h3⟩
 have q3 := h3.three.cell 0
 simp [hvs] at q3
 have HT : Hid (∀ W,Calls Tryz.prog 96 #[.int .u8 (k : Int)] W fun e w' => e = .returned (.bool (hasT k)) ∧ w' = W) := fun W => hasTick_any W k hk8
 have H3 : Hid (Own w0 w3 _) := h3
 clear h3 q2
 go_wp2_with fail
 refine (HT.out _).mono ?_
 rintro x w3' ⟨rfl,rfl⟩
 clear HT q3
 by_cases hT : hasT k = true
 ·have q3 := H3.out.three.cell 3
  simp [hvs] at q3
  have H4 : Hid (Calls _ _ _ _ _) := pput w0 _ _ p b _ t 32 H3.out (by decide) (by omega) (by omega) (by simp [length_bitsN,wid15,wid015,length_var]; omega)
  rw [hT]
  have HTT : Hid (hasT k = true) := hT
  clear H3 hT
  go_wp2_with fail
  refine H4.out.mono ?_
  rintro x w4 ⟨rfl,h4⟩
  have q0 := h4.three.cell 0
  simp [hvs] at q0
  clear H4 q3
  by_cases hk : k = 2
  ·subst hk
   have q1 := h4.three.cell 3
   have q2 := h4.three.cell 4
   simp [hvs] at q1 q2
   have hst : s < t := by have := HR.out.bf; unfold bfit at this; simpa using this
   have e1 : ((t : Int) - (s : Int)) % 4294967296 = ((t - s : Nat) : Int) := by omega
   have e2 : (((t : Int) - (s : Int) - 1) % 4294967296) = ((t - s - 1 : Nat) : Int) := by omega
   have hP := pputVar w0 _ _ p b _ (t - s - 1) h4 (by omega) (by simp [length_bitsN,wid15,wid015,length_var]; omega)
   have H5 : Hid (∀ v : Int,v = ((t - s - 1 : Nat) : Int) → Calls Tryz.prog 128 #[.pointer (some ⟨p,0,none⟩),.int .u64 v] w4 _) := fun v hv => by rw [hv]; exact hP
   clear h4 e1 e2 hP
   go_wp2_with fail
   refine (H5.out _ (by omega)).mono ?_
   rintro x w5 ⟨rfl,h5⟩
   have H6 : Hid (Own w0 w5 _) := h5.three.tail
   clear h5 H5 q0 q1 q2
   go_wp2
   go_end0
   exact ⟨rfl,by unfold headB; rw [if_pos HTT.out,if_pos rfl]; simpa using H6.out⟩
  ·have e1 : ((k : Int) == 2) = false := by rw [beq_eq_false_iff_ne]; omega
   have H6 : Hid (Own w0 w4 _) := h4.three.tail
   have HK : Hid (k ≠ 2) := hk
   clear h4 hk
   go_wp2
   go_end0
   exact ⟨rfl,by unfold headB; rw [if_pos HTT.out,if_neg HK.out]; simpa using H6.out⟩
 ·have hT' : hasT k = false := by simpa using hT
  have hk : k ≠ 2 := by rintro rfl; exact hT rfl
  have e1 : ((k : Int) == 2) = false := by rw [beq_eq_false_iff_ne]; omega
  have q0 := H3.out.three.cell 0
  simp [hvs] at q0
  have H6 : Hid (Own w0 w3' _) := H3.out.three.tail
  have HK : Hid (k ≠ 2 ∧ ¬ hasT k = true) := ⟨hk,hT⟩
  rw [hT']
  clear H3 hT hT' hk
  go_wp2
  go_end0
  exact ⟨rfl,by unfold headB; rw [if_neg HK.out.2,if_neg HK.out.1]; simpa using H6.out⟩
def stp (s : Nat) : Nat := (s / 2) ^^^ (if s % 2 = 1 then 3988292384 else 0)
def stps : Nat → Nat → Nat
 | 0,s => s
 | n + 1,s => stps n (stp s)
theorem half_xor (a b : Nat) : (a ^^^ b) / 2 = (a / 2) ^^^ (b / 2) := by
 have h : (a ^^^ b) >>> 1 = a >>> 1 ^^^ b >>> 1 := Nat.shiftRight_xor_distrib
 simpa [Nat.shiftRight_eq_div_pow] using h
theorem stp_xor (a b : Nat) : stp (a ^^^ b) = stp a ^^^ stp b := by
 unfold stp
 rw [half_xor]
 have h := @Nat.xor_mod_two_eq_one a b
 by_cases ha : a % 2 = 1 <;> by_cases hb : b % 2 = 1
 ·rw [if_neg (by rw [h]; simp [ha,hb]),if_pos ha,if_pos hb]
  generalize a / 2 = x; generalize b / 2 = y; generalize (3988292384 : Nat) = p
  rw [Nat.xor_zero,Nat.xor_assoc x p,← Nat.xor_assoc p y,Nat.xor_comm p y,Nat.xor_assoc y p,Nat.xor_self,Nat.xor_zero]
 ·rw [if_pos (by rw [h]; simp [ha,hb]),if_pos ha,if_neg hb]
  generalize a / 2 = x; generalize b / 2 = y; generalize (3988292384 : Nat) = p
  rw [Nat.xor_zero,Nat.xor_assoc,Nat.xor_assoc,Nat.xor_comm p y]
 ·rw [if_pos (by rw [h]; simp [ha,hb]),if_neg ha,if_pos hb]
  generalize a / 2 = x; generalize b / 2 = y; generalize (3988292384 : Nat) = p
  rw [Nat.xor_zero,Nat.xor_assoc]
 ·rw [if_neg (by rw [h]; simp [ha,hb]),if_neg ha,if_neg hb]
  simp
theorem stps_xor (n a b : Nat) : stps n (a ^^^ b) = stps n a ^^^ stps n b := by
 induction n generalizing a b with
 | zero => rfl
 | succ n ih => rw [stps,stps,stps,stp_xor,ih]
theorem stp_dbl (a : Nat) : stp (2 * a) = a := by
 unfold stp
 rw [if_neg (by omega),Nat.xor_zero]; omega
theorem stps_add (m n s : Nat) : stps (m + n) s = stps n (stps m s) := by
 induction m generalizing s with
 | zero => rw [Nat.zero_add]; rfl
 | succ m ih => rw [Nat.succ_add,stps,stps,ih]
theorem stps_pow (n a : Nat) : stps n (2 ^ n * a) = a := by
 induction n generalizing a with
 | zero => simp [stps]
 | succ n ih => rw [stps,Nat.pow_succ',Nat.mul_assoc,stp_dbl,ih]
theorem xor_lt32 (a b : Nat) (ha : a < 4294967296) (hb : b < 4294967296) : a ^^^ b < 4294967296 := Nat.xor_lt_two_pow (n := 32) ha hb
theorem stp_lt (s : Nat) (h : s < 4294967296) : stp s < 4294967296 := by
 unfold stp
 apply xor_lt32
 ·omega
 ·split <;> omega
theorem stps_lt (n s : Nat) (h : s < 4294967296) : stps n s < 4294967296 := by
 induction n generalizing s with
 | zero => exact h
 | succ n ih => exact ih _ (stp_lt s h)
theorem xor_add (n a b : Nat) (h : a < 2 ^ n) : a + 2 ^ n * b = a ^^^ (2 ^ n * b) := by
 rw [Nat.add_comm]
 apply Nat.eq_of_testBit_eq
 intro i
 rw [Nat.testBit_two_pow_mul_add _ h,Nat.testBit_xor,Nat.testBit_two_pow_mul]
 by_cases c : i < n
 ·rw [if_pos c]; simp [show ¬ n ≤ i by omega]
 ·rw [if_neg c,Nat.testBit_lt_two_pow (Nat.lt_of_lt_of_le h (Nat.pow_le_pow_right (by decide) (by omega)))]; simp; omega
def tbl (r : Nat) : Nat := stps 4 r
theorem four (s : Nat) : (s / 16) ^^^ tbl (s % 16) = stps 4 s := by
 have e : s = (s % 16) ^^^ (2 ^ 4 * (s / 16)) := by
  rw [← xor_add 4 (s % 16) (s / 16) (by omega)]; omega
 have e2 : stps 4 s = stps 4 ((s % 16) ^^^ (2 ^ 4 * (s / 16))) := congrArg _ e
 rw [e2,stps_xor,stps_pow,Nat.xor_comm]; rfl
theorem tbl_lt (r : Nat) (h : r < 16) : tbl r < 4294967296 := stps_lt 4 r (by omega)
def bnum : List Nat → Nat
 | [] => 0
 | b :: l => b + 256 * bnum l
def feed : Nat → List Nat → Nat
 | c,[] => c
 | c,b :: l => feed (stps 8 (c ^^^ b)) l
theorem feed_eq (c : Nat) (l : List Nat) (hl : ∀ b ∈ l,b < 256) : feed c l = stps (8 * l.length) (c ^^^ bnum l) := by
 induction l generalizing c with
 | nil => simp [feed,bnum,stps]
 | cons b l ih =>
  have hb := hl b (by simp)
  rw [feed,ih _ (fun x hx => hl x (by simp [hx])),bnum,List.length_cons,show 8 * (l.length + 1) = 8 + 8 * l.length by omega,stps_add]
  congr 1
  have e : b + 256 * bnum l = b ^^^ (2 ^ 8 * bnum l) := xor_add 8 b (bnum l) (by omega)
  rw [e,← Nat.xor_assoc,stps_xor 8 (c ^^^ b),stps_pow]
theorem feed_snoc (c : Nat) (l : List Nat) (b : Nat) : feed c (l ++ [b]) = stps 8 (feed c l ^^^ b) := by
 induction l generalizing c with
 | nil => rfl
 | cons x l ih => exact ih _
theorem feed_lt (c : Nat) (l : List Nat) (hc : c < 4294967296) (hl : ∀ b ∈ l,b < 256) : feed c l < 4294967296 := by
 induction l generalizing c with
 | nil => exact hc
 | cons b l ih =>
  have := hl b (by simp)
  exact ih _ (stps_lt 8 _ (xor_lt32 c b hc (by omega))) (fun x hx => hl x (by simp [hx]))
def crc (l : List Nat) : Nat := 4294967295 - feed 4294967295 l
theorem crc_lt (l : List Nat) : crc l < 4294967296 := by unfold crc; omega
theorem ones_sub (a : Nat) (ha : a < 4294967296) : 4294967295 - a = a ^^^ 4294967295 := by
 have h := BitVec.toNat_xor (BitVec.ofNat 32 a) (BitVec.allOnes 32)
 rw [BitVec.xor_allOnes,BitVec.toNat_not,BitVec.toNat_allOnes,BitVec.toNat_ofNat,Nat.mod_eq_of_lt ha] at h
 exact h
def Tabf (w : World) : Prop := ∀ i : Nat,i < 16 → w.cell? ⟨0,i,none⟩ = some (.int .u32 ((tbl i : Nat) : Int))
theorem Tabf.keep {S : Nat → Prop} {w w' : World} (h : Tabf w) (hf : Fr S w w') (hs : ¬ S 0) : Tabf w' := fun i hi =>
 (hf.cell (p := ⟨0,i,none⟩) (World.block_lt_of_cell? w _ (h i hi)) hs).trans (h i hi)
theorem Tabf.quiet {w w' : World} (h : Tabf w) (hf : Fr Nobody w w') : Tabf w' := h.keep hf id
theorem xor32 (a b : Nat) (ha : a < 4294967296) (hb : b < 4294967296) : bits .xor .u32 (a : Int) (b : Int) = ((a ^^^ b : Nat) : Int) := u32_xor_nat a b ha hb
theorem step_val (y : Nat) (hy : y < 4294967296) : bits .xor .u32 ((y : Int) / 16) ((tbl (y % 16) : Nat) : Int) = ((stps 4 y : Nat) : Int) := by
 have e : (y : Int) / 16 = ((y / 16 : Nat) : Int) := by omega
 rw [e,xor32 _ _ (by omega) (tbl_lt _ (by omega)),four]
theorem sum_any (w : World) (ao : Option Addr) (cap len : Nat) (P : List Nat) (h : BytesAt w ao P) (hlen : P.length = len) (hb : ∀ x ∈ P,x < 256) (hL : len ≤ 1000000000) (ht : Tabf w) :
  Calls Tryz.prog 90 #[.slice ao len cap] w fun e w' => e = .returned (.int .u32 ((crc P : Nat) : Int)) ∧ w' = w := by
 have H : Hid (BytesAt w ao P) := h
 have HT : Hid (Tabf w) := ht
 have HB : Hid (∀ x ∈ P,x < 256) := hb
 have HL : Hid (P.length = len) := hlen
 clear h ht hb hlen
 go_enter Tryz.func90,Tryz.ntmps90
 go_wp2
 go_loopw [3,8] (fun u c wr => ∃ k : Nat,k ≤ len ∧ c = .int .i64 k ∧ u = .int .u32 ((feed 4294967295 (P.take k) : Nat) : Int) ∧ wr = w) (fun _ c _ => len - (intOf c).toNat)
 case atStart => exact ⟨0,Nat.zero_le _,rfl,rfl,rfl⟩
 case round =>
  obtain ⟨k,hk,rfl,rfl,rfl⟩ := hrel
  by_cases hlt : k < len
  ·have hP : k < P.length := by rw [HL.out]; exact hlt
   have hx : P[k]? = some P[k] := List.getElem?_eq_getElem hP
   have hx2 := HB.out P[k] (List.getElem_mem _)
   obtain ⟨g,o,rfl,hcs⟩ : ∃ g o,ao = some ⟨g,o,none⟩ ∧ ∀ (j x : Nat),P[j]? = some x → wr.cell? ⟨g,o + j,none⟩ = some (.int .u8 (x : Int)) := by
    rcases H.out with hn | hn
    ·rw [hn] at hP; cases hP
    ·exact hn
   have cx := hcs k _ hx
   have hc := feed_lt 4294967295 (P.take k) (by decide) (fun x hx => HB.out x (List.mem_of_mem_take hx))
   have HS : Hid (feed 4294967295 (P.take (k + 1)) = stps 8 (feed 4294967295 (P.take k) ^^^ P[k])) := by
    show _ = _
    rw [List.take_add_one,hx]; exact feed_snoc _ _ _
   generalize feed 4294967295 (P.take k) = c at *
   generalize P[k] = x at *
   have hy := xor_lt32 c x hc (by omega)
   have e1 := xor32 c x hc (by omega)
   generalize c ^^^ x = y at *
   have hz := stps_lt 4 y hy
   have e2 := step_val y hy
   have t2 := HT.out (y % 16) (by omega)
   have HZ : Hid (stps 8 y = stps 4 (stps 4 y)) := stps_add 4 4 y
   generalize stps 4 y = z at *
   have e3 := step_val z hz
   have t3 := HT.out (z % 16) (by omega)
   have hw := stps_lt 4 z hz
   generalize tbl (y % 16) = q at *
   generalize tbl (z % 16) = r at *
   generalize stps 4 z = v at *
   clear hcs hx
   go_wp2
   refine ⟨⟨k + 1,by omega,by go_num,?_,trivial⟩,by simp [intOf]; omega⟩
   rw [HS.out,HZ.out]
  ·go_wp2
   go_ret
   have e : k = len := by omega
   subst e
   refine ⟨ret_int ?_,rfl⟩
   have eP : P.take k = P := List.take_of_length_le (by rw [HL.out]; exact Nat.le_refl _)
   have hc := feed_lt 4294967295 P (by decide) HB.out
   rw [eP]
   have h1 := xor32 4294967295 (feed 4294967295 P) (by decide) hc
   have h2 : IntKind.u32.max = ((4294967295 : Nat) : Int) := by decide
   rw [h2,h1,crc,ones_sub _ hc,Nat.xor_comm]
theorem mul_xor (n a b : Nat) : 2 ^ n * (a ^^^ b) = (2 ^ n * a) ^^^ (2 ^ n * b) := by
 have h : (a ^^^ b) <<< n = a <<< n ^^^ b <<< n := Nat.shiftLeft_xor_distrib
 simpa [Nat.shiftLeft_eq,Nat.mul_comm] using h
def flip (l : List Nat) (k : Nat) : List Nat := l.set (k / 8) ((l[k / 8]?.getD 0) ^^^ 2 ^ (k % 8))
theorem copy_bytes {w : World} {ops : Array Oper} {rest : List Oper} {o : Oper} {a : Act} {Q : Exit → Act → World → Prop} (hgd : o.guard = none) (s x : Operand)
  (ho : o.op = .call { callee := .builtin .append,args := #[s,x],argTypes := #[22,22] }) (ao : Option Addr) (m cap : Nat) (P : List Nat) (h : Src w (.slice ao m cap) P.length (vrow P)) (hm : P.length = m) (hL : m ≤ 1000000)
  (hs : a.eval s = .slice (some ⟨w.heap.size,0,none⟩) 0 0) (hx : a.eval x = .slice ao m cap)
  (hK : ∀ v' w',w'.ownsRow w.heap.size 5 1 v' m (vrow P) → Fr Nobody w w' → wpList Tryz.prog ops Q rest (a.put o.dst v') w') :
  wpList Tryz.prog ops Q (o :: rest) a (w.alloc (.cells #[] 5)) := by
 obtain ⟨i0,hi,hz0,hz1,hz2⟩ := info_parts Tryz.infoB
 have hown := World.ownsRow_made (e := 5) (size := 1) (base := w.heap.size) w #[] 0 (Nat.le_refl _) (Nat.zero_le _) rfl
 have hfr : Fr Nobody w (w.alloc (.cells #[] 5)) := (Fr.refl _ w).alloc _
 rcases h with ⟨hv,h0,h00⟩ | ⟨a',cap',hv,hl,hc⟩
 ·have hP0 : P = [] := List.eq_nil_of_length_eq_zero h0
  subst hP0
  subst hm
  rw [hv] at hx
  refine wpList_plain hgd fun K hK' => ?_
  have hr := run_append_owned_none (P := Tryz.prog) (w.alloc (.cells #[] 5)) w.heap.size 22 o.type 5 i0 1 Tryz.underlying22 hi _ 0 [] hown
  unfold Oper.wp
  simp [execOp,ho,resolve,invoke,builtin,hs,hx,hr,Result.andThen]
  exact hK' _ _ (hK _ _ hown hfr)
 ·simp only [Value.slice.injEq] at hv
  obtain ⟨rfl,_,rfl⟩ := hv
  refine wpList_append_own (w.alloc (.cells #[] 5)) hgd s x 22 ho w.heap.size 5 i0 (.int .u8 0) 1 1 Tryz.underlying22 hi hz0 hz1 hz2 rfl (by decide) _ 0 [] hs hown a' m cap (vrow P) hx (by rw [length_vrow]; omega) (fun j u hu => Lib.cell?_alloc_some _ (hc j u hu)) (one_vrow P) (by unfold maxLen; omega) (by omega) (by simp) ?_
  intro v' w' ho' hg' _
  exact hK v' w' (by simpa using ho') (hfr.grown hg' (by intro k hk; simp [Value.ownBlock] at hk; omega))
end Go.Proofs.YtgifeckbflkkpaaGreatDoor
