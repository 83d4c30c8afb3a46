/- span, Width, groups, Zig and Zag of package nums. -/
import Derived.Test.YtgifeckbflkkpaaGreatDoorQr02
namespace Go.Proofs.YtgifeckbflkkpaaGreatDoor
open Go.RowKit
set_option linter.unusedVariables false
set_option maxHeartbeats 4000000
theorem wrapU (n : Int) : IntKind.u64.wrap n = n % 18446744073709551616 := IntKind.wrap_u64 n
theorem span_any (lo hi : Int) (d : Nat) (w : World) (h0 : -9223372036854775808 ≤ lo) (h1 : hi ≤ 9223372036854775807) (hd : hi = lo + (d : Int)) :
  Calls Tryz.prog 166 #[.int .i64 lo,.int .i64 hi] w fun e w' => e = .returned (.int .u64 (d : Int)) ∧ w' = w := by
 have hle : lo ≤ hi := by omega
 have H : Hid (hi = lo + (d : Int)) := hd
 clear hd
 go_enter Tryz.func166,Tryz.ntmps166
 go_wp2
 go_ret
 refine ⟨ret_int ?_,rfl⟩
 have := H.out
 simp only [wrapU]
 omega
def wid (lo hi : Int) : Nat := if hi < lo then 0 else Lib.bitLen (hi - lo).toNat
theorem width_any (lo hi : Int) (w : World) (h0 : -9223372036854775808 ≤ lo) (h1 : hi ≤ 9223372036854775807) (h2 : lo ≤ 9223372036854775807) (h3 : -9223372036854775808 ≤ hi) :
  Calls Tryz.prog 165 #[.int .i64 lo,.int .i64 hi] w fun e w' => e = .returned (.int .i64 (wid lo hi : Nat)) ∧ w' = w := by
 by_cases h : hi < lo
 ·have e0 : wid lo hi = 0 := by unfold wid; rw [if_pos h]
  rw [e0]
  go_enter Tryz.func165,Tryz.ntmps165
  go_wp2
  go_ret
  exact ⟨rfl,rfl⟩
 ·have e0 : wid lo hi = Lib.bitLen (hi - lo).toNat := by unfold wid; rw [if_neg h]
  obtain ⟨d,hd⟩ : ∃ d : Nat,d = (hi - lo).toNat := ⟨_,rfl⟩
  rw [e0,← hd]
  have H : Hid (hi = lo + (d : Int) ∧ d < 18446744073709551616) := ⟨by omega,by omega⟩
  clear e0 hd
  go_enter Tryz.func165,Tryz.ntmps165
  go_wp2_with fail
  refine (span_any lo hi d w h0 h1 H.out.1).mono ?_
  rintro e w' ⟨rfl,rfl⟩
  go_wp2_with fail
  refine (len64_any d _ H.out.2).mono ?_
  rintro e w' ⟨rfl,rfl⟩
  go_wp2
  go_ret
  exact ⟨rfl,rfl⟩
def grp (v : Nat) : Nat := max 1 ((Lib.bitLen v + 3) / 4)
theorem bitLen_64 (v : Nat) (h : v < 18446744073709551616) : Lib.bitLen v ≤ 64 := Lib.bitLen_le v 64 (by decide) h
theorem groups_any (v : Nat) (w : World) (hv : v < 18446744073709551616) :
  Calls Tryz.prog 179 #[.int .u64 v] w fun e w' => e = .returned (.int .i64 (grp v : Nat)) ∧ w' = w := by
 have hb := bitLen_64 v hv
 have HG : Hid (((grp v : Nat) : Int) = max 1 ((((Lib.bitLen v : Nat) : Int) + 4 - 1) / 4)) := by show _ = _; unfold grp; omega
 go_enter Tryz.func179,Tryz.ntmps179
 go_wp2_with fail
 refine (len64_any v w hv).mono ?_
 generalize Lib.bitLen v = l at *
 rintro e w' ⟨rfl,rfl⟩
 go_wp2
 go_ret
 exact ⟨ret_int HG.out.symm,rfl⟩
theorem xor_ones (a : Nat) (ha : a < 18446744073709551616) : a ^^^ 18446744073709551615 = 18446744073709551615 - a := by
 have h := BitVec.toNat_xor (BitVec.ofNat 64 a) (BitVec.allOnes 64)
 rw [BitVec.xor_allOnes,BitVec.toNat_not,BitVec.toNat_allOnes,BitVec.toNat_ofNat,Nat.mod_eq_of_lt ha] at h
 exact h.symm
theorem u64_xor_ones (a : Nat) (ha : a < 18446744073709551616) : bits .xor .u64 (a : Int) 18446744073709551615 = 18446744073709551615 - (a : Int) := by
 have h := u64_xor_nat a 18446744073709551615 ha (by decide)
 rw [xor_ones a ha] at h
 have e : ((18446744073709551615 : Nat) : Int) = 18446744073709551615 := rfl
 rw [e] at h
 rw [h]; omega
theorem u64_xor_zero (a : Nat) (ha : a < 18446744073709551616) : bits .xor .u64 (a : Int) 0 = (a : Int) := by
 have h := u64_xor_nat a 0 ha (by decide)
 simpa using h
def zig (n : Int) : Nat := if n < 0 then (-2 * n - 1).toNat else (2 * n).toNat
def zag (v : Nat) : Int := if v % 2 = 0 then (v : Int) / 2 else -1 - (v : Int) / 2
theorem zag_zig (n : Int) : zag (zig n) = n := by
 unfold zag zig
 by_cases h : n < 0
 ·rw [if_pos h]; split <;> omega
 ·rw [if_neg h]; split <;> omega
theorem zig_any (n : Int) (w : World) (h0 : -9223372036854775808 ≤ n) (h1 : n ≤ 9223372036854775807) :
  Calls Tryz.prog 262 #[.int .i64 n] w fun e w' => e = .returned (.int .u64 (zig n : Nat)) ∧ w' = w := by
 by_cases h : n < 0
 ·have e : zig n = (-2 * n - 1).toNat := by unfold zig; rw [if_pos h]
  rw [e]
  go_enter Tryz.func262,Tryz.ntmps262
  go_wp2
  go_ret
  refine ⟨ret_int ?_,rfl⟩
  have e1 : IntKind.u64.wrap (IntKind.u64.wrap n * 2) = (((18446744073709551616 + 2 * n).toNat : Nat) : Int) := by simp only [wrapU]; omega
  have e2 : IntKind.u64.wrap (n / 9223372036854775808) = 18446744073709551615 := by simp only [wrapU]; omega
  rw [e1,e2,u64_xor_ones _ (by omega)]
  omega
 ·have e : zig n = (2 * n).toNat := by unfold zig; rw [if_neg h]
  have h' : 0 ≤ n := by omega
  rw [e]
  clear e
  go_enter Tryz.func262,Tryz.ntmps262
  go_wp2
  go_ret
  refine ⟨ret_int ?_,rfl⟩
  have e1 : n * 2 = (((n * 2).toNat : Nat) : Int) := by omega
  have e2 : n / 9223372036854775808 = 0 := by omega
  rw [e2,e1,u64_xor_zero _ (by omega)]
  omega
def grpAt (v n i : Nat) : Nat := v / 2 ^ (4 * i) % 16 + (if i + 1 < n then 16 else 0)
def varTo (v n : Nat) : Nat → List Bool
 | 0 => []
 | k + 1 => varTo v n k ++ bitsN 5 (grpAt v n k)
def var (v : Nat) : List Bool := varTo v (grp v) (grp v)
theorem length_varTo (v n k : Nat) : (varTo v n k).length = 5 * k := by
 induction k with
 | zero => rfl
 | succ k ih => rw [varTo,List.length_append,ih,length_bitsN]; omega
theorem length_var (v : Nat) : (var v).length = 5 * grp v := length_varTo _ _ _
theorem grp_bd (v : Nat) (hv : v < 18446744073709551616) : 1 ≤ grp v ∧ grp v ≤ 16 := by
 have := bitLen_64 v hv
 unfold grp; omega
theorem grpAt_lt (v n i : Nat) : grpAt v n i < 32 := by unfold grpAt; split <;> omega
theorem part_val (v k : Nat) : ((v : Int) / 2 ^ (4 * k)).tmod 16 = ((v / 2 ^ (4 * k) % 16 : Nat) : Int) := by
 have h2 : ((v : Int) / 2 ^ (4 * k)) = ((v / 2 ^ (4 * k) : Nat) : Int) := by simp
 rw [h2,Int.tmod_eq_emod_of_nonneg (Int.natCast_nonneg _)]
 omega
theorem more_val (v k : Nat) : IntKind.u64.wrap (((v : Int) / 2 ^ (4 * k)).tmod 16 + 16) = ((v / 2 ^ (4 * k) % 16 + 16 : Nat) : Int) := by
 rw [part_val,wrapU]
 have := Nat.mod_lt (v / 2 ^ (4 * k)) (show 0 < 16 by decide)
 omega
theorem lt_bitLen (x : Nat) (h : x < 18446744073709551616) : x < 2 ^ Lib.bitLen x := by
 induction x using Nat.strongRecOn with
 | ind x ih =>
  by_cases h0 : x = 0
  ·subst h0; exact Nat.two_pow_pos _
  ·rw [Lib.bitLen_half x h0 h,Nat.add_comm,Nat.pow_succ]
   have := ih (x / 2) (by omega) (by omega)
   omega
theorem wid_le (lo hi : Int) (h0 : -9223372036854775808 ≤ lo) (h1 : hi ≤ 9223372036854775807) : wid lo hi ≤ 64 := by
 unfold wid
 split
 ·omega
 ·exact bitLen_64 _ (by omega)
theorem in_lt (n lo hi : Int) (h0 : -9223372036854775808 ≤ lo) (h1 : hi ≤ 9223372036854775807) (ha : lo ≤ n) (hb : n ≤ hi) : (n - lo).toNat < 2 ^ wid lo hi := by
 unfold wid
 rw [if_neg (by omega)]
 have := lt_bitLen (hi - lo).toNat (by omega)
 omega
end Go.Proofs.YtgifeckbflkkpaaGreatDoor
namespace Go.Proofs.YtgifeckbflkkpaaGreatDoor
open Go.RowKit
set_option linter.unusedVariables false
set_option maxHeartbeats 4000000
set_option maxRecDepth 100000
def WrT (b : Nat) (L : List Bool) : Thing where
 is := fun w A => ∃ g,Wr 0 w b g L ∧ ∀ j,A j ↔ At b g j
 lt := by
  rintro w A j ⟨g,h,hA⟩ a
  rcases (hA j).1 a with rfl | e
  ·exact h.lt
  ·exact h.glt j e.symm
 keep := by
  rintro w w' A B ⟨g,h,hA⟩ hf hn
  exact ⟨g,h.keep hf (hn b ((hA b).2 (.inl rfl))) (fun k hk => hn k ((hA k).2 (.inr hk.symm))),hA⟩
theorem Own.wr {w0 w : World} {l : List Thing} {b : Nat} {L : List Bool} (h : Own w0 w (WrT b L :: l)) : ∃ g,Wr 0 w b g L ∧ ∀ (w' : World) (g' : Option Nat) (L' : List Bool),Wr 0 w' b g' L' → Step w b g w' g' → Own w0 w' (WrT b L' :: l) := by
 obtain ⟨A,⟨g,hw,hA⟩,hlo,act⟩ := h.act
 refine ⟨g,hw,fun w' g' L' hw' hs => act w' (WrT b L') (At b g') ⟨g',hw',fun _ => Iff.rfl⟩ (hs.fr.mono (fun k _ hk => (hA k).2 hk)) (fun k hk => ?_)⟩
 rcases hk with rfl | hk
 ·exact .inl ((hA _).2 (.inl rfl))
 ·rcases hs.row with e | ⟨j,e,hj⟩
  ·exact .inl ((hA k).2 (.inr (hk.trans e)))
  ·rw [e] at hk; cases hk; exact .inr hj
theorem new_own (w0 w : World) (l : List Thing) (h : Own w0 w l) : Calls Tryz.prog 84 #[] w fun e w' => ∃ b,e = .returned (.pointer (some ⟨b,0,none⟩)) ∧ Own w0 w' (WrT b [] :: l) := by
 refine (new_ow w w (Fr.refl _ _)).mono ?_
 rintro e w' ⟨b,rfl,hb,g,hw,hf⟩
 refine ⟨b,rfl,h.new (WrT b []) (At b g) ⟨g,hw.mono (Nat.zero_le _),fun _ => Iff.rfl⟩ hf (fun k hk => ?_)⟩
 exact hw.lowAt k hk
theorem len_own (w0 w : World) (l : List Thing) (b : Nat) (L : List Bool) (h : Own w0 w (WrT b L :: l)) : Calls Tryz.prog 180 #[.pointer (some ⟨b,0,none⟩)] w fun e w' => e = .returned (.int .i64 (L.length : Int)) ∧ Own w0 w' (WrT b L :: l) := by
 obtain ⟨g,hw,k⟩ := h.wr
 refine (len_any 0 w b g L hw).mono ?_
 rintro e w' ⟨rfl,rfl⟩
 exact ⟨rfl,h⟩
theorem putW_own (w0 w : World) (l : List Thing) (b : Nat) (L : List Bool) (v n : Nat) (x y : Int) (hx : x = (v : Int)) (hy : y = (n : Int)) (h : Own w0 w (WrT b L :: l)) (hn : n ≤ 64) (hv : v < 2 ^ n) (hv2 : v < 18446744073709551616) (hl : L.length + n ≤ 1048576) :
  Calls Tryz.prog 154 #[.pointer (some ⟨b,0,none⟩),.int .u64 x,.int .i64 y] w fun e w' => e = .returned (.int .i64 0) ∧ Own w0 w' (WrT b (L ++ bitsN n v) :: l) := by
 subst hx hy
 obtain ⟨g,hw,k⟩ := h.wr
 refine (put_ok 0 w b g L v n hw hn hv hv2 hl).mono ?_
 rintro e w' ⟨rfl,g',hw',hs⟩
 exact ⟨rfl,k w' g' _ hw' hs⟩
theorem putVarW (w0 w : World) (l : List Thing) (b : Nat) (L : List Bool) (v : Nat) (h : Own w0 w (WrT b L :: l)) (hv : v < 18446744073709551616) (hl : L.length + 5 * grp v ≤ 1048576) :
  Calls Tryz.prog 153 #[.pointer (some ⟨b,0,none⟩),.int .u64 v] w fun e w' => e = .returned (.int .i64 0) ∧ Own w0 w' (WrT b (L ++ var v) :: l) := by
 have hg := grp_bd v hv
 have H : Hid (Own w0 w (WrT b L :: l)) := h
 have HV : Hid (var v = varTo v (grp v) (grp v)) := rfl
 clear h
 have hgr := groups_any v w hv
 generalize var v = vv at *
 generalize grp v = n at *
 go_enter Tryz.func153,Tryz.ntmps153
 go_wp2_with fail
 refine hgr.mono ?_
 clear hgr
 rintro e w' ⟨rfl,rfl⟩
 go_wp2_with fail
 refine (len_own w0 _ l b L H.out).mono ?_
 rintro e w1 ⟨rfl,hW⟩
 have H1 : Hid (Own w0 w1 (WrT b L :: l)) := hW
 clear hW H
 have hlong : ¬ (1048576 : Int) - (L.length : Int) < (n : Int) * 5 := by omega
 go_wp2
 clear hlong
 go_loopw [22] (fun c wr => ∃ k : Nat,k ≤ n ∧ c = .int .i64 k ∧ Own w0 wr (WrT b (L ++ varTo v n k) :: l)) (fun c _ => n - (intOf c).toNat)
 case atStart => exact ⟨0,Nat.zero_le _,rfl,by simpa [varTo] using H1.out⟩
 case round =>
  obtain ⟨k,hk,rfl,hW⟩ := hrel
  by_cases hlt : k < n
  ·by_cases hlast : k + 1 < n
   ·have hla : (k : Int) < (n : Int) - 1 := by omega
    go_wp2_with fail
    refine (putW_own w0 wr l b _ (grpAt v n k) 5 _ 5 (by rw [grpAt,if_pos hlast]; exact more_val v k) rfl hW (by decide) (grpAt_lt v n k) (Nat.lt_trans (grpAt_lt v n k) (by decide)) (by rw [List.length_append,length_varTo]; omega)).mono ?_
    rintro e w2 ⟨rfl,hW2⟩
    have H2 : Hid (Own w0 w2 (WrT b (L ++ varTo v n (k + 1)) :: l)) := by rw [varTo,← List.append_assoc]; exact hW2
    clear hW hW2 H1
    go_wp2
    go_roundw
    case rel => exact ⟨k + 1,by omega,by go_num,H2.out⟩
    case measure => simp [intOf]; omega
   ·have hla : ¬ (k : Int) < (n : Int) - 1 := by omega
    go_wp2_with fail
    refine (putW_own w0 wr l b _ (grpAt v n k) 5 _ 5 (by rw [grpAt,if_neg hlast]; exact part_val v k) rfl hW (by decide) (grpAt_lt v n k) (Nat.lt_trans (grpAt_lt v n k) (by decide)) (by rw [List.length_append,length_varTo]; omega)).mono ?_
    rintro e w2 ⟨rfl,hW2⟩
    have H2 : Hid (Own w0 w2 (WrT b (L ++ varTo v n (k + 1)) :: l)) := by rw [varTo,← List.append_assoc]; exact hW2
    clear hW hW2 H1
    go_wp2
    go_roundw
    case rel => exact ⟨k + 1,by omega,by go_num,H2.out⟩
    case measure => simp [intOf]; omega
  ·go_wp2
   go_ret
   have e : k = n := by omega
   subst e
   exact ⟨rfl,by rw [HV.out]; exact hW⟩
theorem putInW (w0 w : World) (l : List Thing) (b : Nat) (L : List Bool) (n lo hi : Int) (d : Nat) (hd : n = lo + (d : Int)) (h : Own w0 w (WrT b L :: l)) (h0 : -9223372036854775808 ≤ lo) (h1 : hi ≤ 9223372036854775807) (ha : lo ≤ n) (hb : n ≤ hi) (hl : L.length + 64 ≤ 1048576) :
  Calls Tryz.prog 152 #[.pointer (some ⟨b,0,none⟩),.int .i64 n,.int .i64 lo,.int .i64 hi] w fun e w' => e = .returned (.int .i64 0) ∧ Own w0 w' (WrT b (L ++ bitsN (wid lo hi) d) :: l) := by
 have hle : lo ≤ hi := by omega
 have H : Hid (Own w0 w (WrT b L :: l)) := h
 have ed : (n - lo).toNat = d := by omega
 have HI : Hid (d < 2 ^ wid lo hi) := ed ▸ in_lt n lo hi h0 h1 ha hb
 have HW : Hid (wid lo hi ≤ 64) := wid_le lo hi h0 h1
 have G1 : Hid _ := fun w => span_any lo n d w h0 (by omega) hd
 have G2 : Hid _ := fun w => width_any lo hi w h0 h1 (by omega) (by omega)
 have hdl : d < 18446744073709551616 := by omega
 clear h hd ed
 generalize wid lo hi = m at *
 go_enter Tryz.func152,Tryz.ntmps152
 go_wp2_with fail
 refine (G1.out _).mono ?_
 rintro e w' ⟨rfl,rfl⟩
 go_wp2_with fail
 refine (G2.out _).mono ?_
 rintro e w' ⟨rfl,rfl⟩
 go_wp2_with fail
 refine (putW_own w0 _ l b L d m _ _ rfl rfl H.out HW.out HI.out hdl (by have := HW.out; omega)).mono ?_
 rintro e w1 ⟨rfl,hW⟩
 go_wp2
 go_ret
 exact ⟨rfl,hW⟩
theorem bytesW (w0 w : World) (l : List Thing) (b : Nat) (L : List Bool) (h : Own w0 w (WrT b L :: l)) (hl : L.length ≤ 1048576) :
  Calls Tryz.prog 88 #[.pointer (some ⟨b,0,none⟩)] w fun e w' => ∃ v',e = .returned v' ∧ Own w0 w' (Row 5 1 v' (nb L.length) (vrow (pack L)) :: WrT b L :: l) := by
 obtain ⟨g,hw,k⟩ := h.wr
 refine (bytes_any 0 w b g L hw hl).mono ?_
 rintro e w' ⟨v',rfl,hr,hf,hk⟩
 exact ⟨v',rfl,h.new (Row 5 1 v' (nb L.length) (vrow (pack L))) (fun k => v'.ownBlock = some k) ⟨hr,fun _ => Iff.rfl⟩ hf hk⟩
def penC (p b : Nat) : Thing := Cells p #[.pointer (some ⟨b,0,none⟩),.int .i64 0] 165
theorem note0 (w0 w : World) (l : List Thing) (p b : Nat) (h : Own w0 w (penC p b :: l)) :
  Calls Tryz.prog 151 #[.pointer (some ⟨p,0,none⟩),.int .i64 0] w fun e w' => e = .returned (.tuple #[]) ∧ Own w0 w' (penC p b :: l) := by
 unfold penC at h
 have q0 := Own.cell h 0
 have q1 := Own.cell h 1
 have q2 := Own.froz h 1
 simp at q0 q1
 have H : Hid (Own w0 _ _) := Own.setC h 1 (.int .i64 0)
 clear h
 go_enter Tryz.func151,Tryz.ntmps151
 go_wp2
 go_end0
 exact ⟨rfl,by unfold penC; simpa using H.out⟩
theorem pput (w0 w : World) (l : List Thing) (p b : Nat) (L : List Bool) (v n : Nat) (h : Own w0 w (penC p b :: WrT b L :: l)) (hn : n ≤ 64) (hv : v < 2 ^ n) (hv2 : v < 18446744073709551616) (hl : L.length + n ≤ 1048576) :
  Calls Tryz.prog 129 #[.pointer (some ⟨p,0,none⟩),.int .u64 v,.int .i64 n] w fun e w' => e = .returned (.tuple #[]) ∧ Own w0 w' (penC p b :: WrT b (L ++ bitsN n v) :: l) := by
 have H1 : Hid (Calls _ _ _ _ _) := putW_own w0 w _ b L v n _ _ rfl rfl h.two hn hv hv2 hl
 unfold penC at h
 have q0 := Own.cell h 0
 simp at q0
 clear h hv hv2 hl
 go_enter Tryz.func129,Tryz.ntmps129
 go_wp2_with fail
 refine H1.out.mono ?_
 rintro e w1 ⟨rfl,h1⟩
 have H2 : Hid (Calls _ _ _ _ _) := note0 w0 w1 _ p b h1.two
 clear h1 H1 q0
 go_wp2_with fail
 refine H2.out.mono ?_
 rintro e w2 ⟨rfl,h2⟩
 have H3 : Hid (Own w0 w2 _) := h2
 clear h2 H2
 go_wp2
 go_end0
 exact ⟨rfl,H3.out⟩
theorem pputVar (w0 w : World) (l : List Thing) (p b : Nat) (L : List Bool) (v : Nat) (h : Own w0 w (penC p b :: WrT b L :: l)) (hv : v < 18446744073709551616) (hl : L.length + 5 * grp v ≤ 1048576) :
  Calls Tryz.prog 128 #[.pointer (some ⟨p,0,none⟩),.int .u64 v] w fun e w' => e = .returned (.tuple #[]) ∧ Own w0 w' (penC p b :: WrT b (L ++ var v) :: l) := by
 have H1 : Hid (Calls _ _ _ _ _) := putVarW w0 w _ b L v h.two hv hl
 unfold penC at h
 have q0 := Own.cell h 0
 simp at q0
 clear h hv hl
 go_enter Tryz.func128,Tryz.ntmps128
 go_wp2_with fail
 refine H1.out.mono ?_
 rintro e w1 ⟨rfl,h1⟩
 have H2 : Hid (Calls _ _ _ _ _) := note0 w0 w1 _ p b h1.two
 clear h1 H1 q0
 go_wp2_with fail
 refine H2.out.mono ?_
 rintro e w2 ⟨rfl,h2⟩
 have H3 : Hid (Own w0 w2 _) := h2
 clear h2 H2
 go_wp2
 go_end0
 exact ⟨rfl,H3.out⟩
theorem pputIn (w0 w : World) (l : List Thing) (p b : Nat) (L : List Bool) (n lo hi : Int) (d : Nat) (hd : n = lo + (d : Int)) (h : Own w0 w (penC p b :: WrT b L :: l)) (h0 : -9223372036854775808 ≤ lo) (h1 : hi ≤ 9223372036854775807) (ha : lo ≤ n) (hb : n ≤ hi) (hl : L.length + 64 ≤ 1048576) :
  Calls Tryz.prog 127 #[.pointer (some ⟨p,0,none⟩),.int .i64 n,.int .i64 lo,.int .i64 hi] w fun e w' => e = .returned (.tuple #[]) ∧ Own w0 w' (penC p b :: WrT b (L ++ bitsN (wid lo hi) d) :: l) := by
 have H1 : Hid (Calls _ _ _ _ _) := putInW w0 w _ b L n lo hi d hd h.two h0 h1 ha hb hl
 unfold penC at h
 have q0 := Own.cell h 0
 simp at q0
 clear h hd hl h0 h1 ha hb
 go_enter Tryz.func127,Tryz.ntmps127
 go_wp2_with fail
 refine H1.out.mono ?_
 rintro e w1 ⟨rfl,h1⟩
 have H2 : Hid (Calls _ _ _ _ _) := note0 w0 w1 _ p b h1.two
 clear h1 H1 q0
 go_wp2_with fail
 refine H2.out.mono ?_
 rintro e w2 ⟨rfl,h2⟩
 have H3 : Hid (Own w0 w2 _) := h2
 clear h2 H2
 go_wp2
 go_end0
 exact ⟨rfl,H3.out⟩
theorem pcount (w0 w : World) (l : List Thing) (p b : Nat) (L : List Bool) (n : Nat) (h : Own w0 w (penC p b :: WrT b L :: l)) (hv : n < 9223372036854775808) (hl : L.length + 5 * grp n ≤ 1048576) :
  Calls Tryz.prog 155 #[.pointer (some ⟨p,0,none⟩),.int .i64 n] w fun e w' => e = .returned (.tuple #[]) ∧ Own w0 w' (penC p b :: WrT b (L ++ var n) :: l) := by
 have H1 : Hid (Calls _ _ _ _ _) := pputVar w0 w l p b L n h (by omega) hl
 clear h hl
 go_enter Tryz.func155,Tryz.ntmps155
 go_wp2_with fail
 refine H1.out.mono ?_
 rintro e w1 ⟨rfl,h1⟩
 have H3 : Hid (Own w0 w1 _) := h1
 clear h1 H1
 go_wp2
 go_end0
 exact ⟨rfl,H3.out⟩
def hvs (k c e t s : Nat) : Array Value := #[.int .u8 (k : Int),.int .u8 (c : Int),.int .u32 (e : Int),.int .u32 (t : Int),.int .u32 (s : Int)]
structure HIn (k c e t s : Nat) : Prop where
 k : k < 256
 c : c < 256
 e : e < 4294967296
 t : t < 4294967296
 s : s < 4294967296
def hasT (k : Nat) : Bool := decide (k = 1) || decide (k = 2) || decide (k = 3)
theorem hasTick_any (w : World) (k : Nat) (hk : k < 256) : Calls Tryz.prog 96 #[.int .u8 (k : Int)] w fun e w' => e = .returned (.bool (hasT k)) ∧ w' = w := by
 by_cases h1 : k = 1
 ·subst h1
  go_enter Tryz.func96,Tryz.ntmps96
  go_wp2
  go_ret
  exact ⟨rfl,rfl⟩
 ·have e1 : ((k : Int) == 1) = false := by rw [beq_eq_false_iff_ne]; omega
  by_cases h2 : k = 2
  ·subst h2
   go_enter Tryz.func96,Tryz.ntmps96
   go_wp2
   go_ret
   exact ⟨rfl,rfl⟩
  ·have e2 : ((k : Int) == 2) = false := by rw [beq_eq_false_iff_ne]; omega
   by_cases h3 : k = 3
   ·subst h3
    go_enter Tryz.func96,Tryz.ntmps96
    go_wp2
    go_ret
    exact ⟨rfl,rfl⟩
   ·have e3 : ((k : Int) == 3) = false := by rw [beq_eq_false_iff_ne]; omega
    have hT : hasT k = false := by unfold hasT; simp [h1,h2,h3]
    rw [hT]
    clear h1 h2 h3 hT
    go_enter Tryz.func96,Tryz.ntmps96
    go_wp2
    go_ret
    exact ⟨rfl,rfl⟩
def tfit (k t : Nat) : Bool := hasT k || decide (t = 0)
theorem tickFits_any (w : World) (k c e t s : Nat) (hI : HIn k c e t s) : Calls Tryz.prog 125 #[.agg (hvs k c e t s)] w fun x w' => x = .returned (.bool (tfit k t)) ∧ Fr Nobody w w' := by
 have HH : Hid (∀ W,Calls Tryz.prog 96 #[.int .u8 (k : Int)] W fun e w' => e = .returned (.bool (hasT k)) ∧ w' = W) := fun W => hasTick_any W k hI.k
 have HF : Hid (∀ o,Fr Nobody w (w.alloc o)) := fun o => (Fr.refl _ _).alloc o
 unfold tfit hvs
 clear hI
 generalize hasT k = r at *
 cases r
 ·by_cases ht : t = 0
  ·subst ht
   go_enter Tryz.func125,Tryz.ntmps125
   go_wp2_with fail
   refine (HH.out _).mono ?_
   rintro e w' ⟨rfl,rfl⟩
   go_wp2
   go_ret
   exact ⟨rfl,HF.out _⟩
  ·have e1 : ((t : Int) == 0) = false := by rw [beq_eq_false_iff_ne]; omega
   rw [decide_eq_false ht]
   clear ht
   go_enter Tryz.func125,Tryz.ntmps125
   go_wp2_with fail
   refine (HH.out _).mono ?_
   rintro e w' ⟨rfl,rfl⟩
   go_wp2
   go_ret
   exact ⟨rfl,HF.out _⟩
 ·go_enter Tryz.func125,Tryz.ntmps125
  go_wp2_with fail
  refine (HH.out _).mono ?_
  rintro e w' ⟨rfl,rfl⟩
  go_wp2
  go_ret
  exact ⟨rfl,HF.out _⟩
def bfit (k t s : Nat) : Bool := if k = 2 then decide (s < t) else decide (s = 0)
theorem baseFits_any (w : World) (k c e t s : Nat) (hI : HIn k c e t s) : Calls Tryz.prog 126 #[.agg (hvs k c e t s)] w fun x w' => x = .returned (.bool (bfit k t s)) ∧ Fr Nobody w w' := by
 have HF : Hid (∀ o,Fr Nobody w (w.alloc o)) := fun o => (Fr.refl _ _).alloc o
 unfold bfit hvs
 clear hI
 by_cases hk : k = 2
 ·subst hk
  rw [if_pos rfl]
  by_cases h : s < t
  ·have h' : (s : Int) < (t : Int) := by omega
   rw [decide_eq_true h]
   go_enter Tryz.func126,Tryz.ntmps126
   go_wp2
   go_ret
   exact ⟨by simp,HF.out _⟩
  ·have h' : ¬ (s : Int) < (t : Int) := by omega
   rw [decide_eq_false h]
   go_enter Tryz.func126,Tryz.ntmps126
   go_wp2
   go_ret
   exact ⟨by simp,HF.out _⟩
 ·have e1 : ((k : Int) == 2) = false := by rw [beq_eq_false_iff_ne]; omega
  rw [if_neg hk]
  by_cases h : s = 0
  ·subst h
   go_enter Tryz.func126,Tryz.ntmps126
   go_wp2
   go_ret
   exact ⟨rfl,HF.out _⟩
  ·have e2 : ((s : Int) == 0) = false := by rw [beq_eq_false_iff_ne]; omega
   rw [decide_eq_false h]
   clear h hk
   go_enter Tryz.func126,Tryz.ntmps126
   go_wp2
   go_ret
   exact ⟨by simp,HF.out _⟩
def hchk (k c e t s : Nat) : Nat := if k < 1 ∨ 5 < k ∨ 16 ≤ c then 1 else if e = 0 ∨ tfit k t = false ∨ bfit k t s = false then 4 else 0
structure Right (k c e t s : Nat) : Prop where
 k1 : 1 ≤ k
 k5 : k ≤ 5
 c15 : c ≤ 15
 e1 : 1 ≤ e
 e32 : e < 4294967296
 t32 : t < 4294967296
 s32 : s < 4294967296
 tf : tfit k t = true
 bf : bfit k t s = true
theorem Right.hIn {k c e t s : Nat} (h : Right k c e t s) : HIn k c e t s := ⟨by have := h.k5; omega,by have := h.c15; omega,h.e32,h.t32,h.s32⟩
def headB (k c e t s : Nat) : List Bool := bitsN (wid 1 5) (k - 1) ++ bitsN (wid 0 15) c ++ var e ++ (if hasT k = true then bitsN 32 t else []) ++ (if k = 2 then var (t - s - 1) else [])
theorem wid15 : wid 1 5 = 3 := by decide +kernel
theorem wid015 : wid 0 15 = 4 := by decide +kernel
theorem grp32 (v : Nat) (h : v < 4294967296) : grp v ≤ 16 := (grp_bd v (by omega)).2
theorem headB_le (k c e t s : Nat) (he : e < 4294967296) (ht : t < 4294967296) : (headB k c e t s).length ≤ 300 := by
 unfold headB
 have h1 := grp32 e he
 have h2 := grp32 (t - s - 1) (by omega)
 simp only [List.length_append,length_bitsN,length_var,wid15,wid015]
 split <;> split <;> simp [length_bitsN,length_var] <;> omega
theorem phead (w0 w : World) (l : List Thing) (p b : Nat) (h : Own w0 w (penC p b :: WrT b [] :: l)) (k c e t s : Nat) (hR : Right k c e t s) :
  Calls Tryz.prog 85 #[.pointer (some ⟨p,0,none⟩),.agg (hvs k c e t s)] w fun x w' => x = .returned (.tuple #[]) ∧ Own w0 w' (penC p b :: WrT b (headB k c e t s) :: l) := by
 have hB := (h.allocC (hvs k c e t s) 29).two.in23
 have q0 := hB.three.cell 0
 simp [hvs] at q0
 have ge := grp32 e hR.e32
 have gt := grp32 (t - s - 1) (by have := hR.t32; omega)
 have H1 : Hid (Calls _ _ _ _ _) := pputIn w0 _ _ p b [] (k : Int) 1 5 (k - 1) (by have := hR.k1; omega) hB (by omega) (by omega) (by have := hR.k1; omega) (by have := hR.k5; omega) (by simp)
 have HR : Hid (Right k c e t s) := hR
 have hk8 : k < 256 := hR.hIn.k
 have hc8 : c < 256 := hR.hIn.c
 have he8 : e < 4294967296 := hR.e32
 have ht8 : t < 4294967296 := hR.t32
 have hs8 : s < 4294967296 := hR.s32
 clear h hB hR
 unfold hvs
 go_enter Tryz.func85,Tryz.ntmps85
 go_wp2_with fail
 refine H1.out.mono ?_
 rintro x w1 ⟨rfl,h1⟩
 have q1 := h1.three.cell 1
 simp [hvs] at q1
 have H2 : Hid (Calls _ _ _ _ _) := pputIn w0 _ _ p b _ (c : Int) 0 15 c (by omega) h1 (by omega) (by omega) (by omega) (by have := HR.out.c15; omega) (by simp [length_bitsN,wid15])
 clear h1 H1 q0
 go_wp2_with fail
 refine H2.out.mono ?_
 rintro x w2 ⟨rfl,h2⟩
 have q2 := h2.three.cell 2
 simp [hvs] at q2
 have H3 : Hid (Calls _ _ _ _ _) := pputVar w0 _ _ p b _ e h2 (by omega) (by simp [length_bitsN,wid15,wid015]; omega)
 clear h2 H2 q1
 go_wp2_with fail
 refine H3.out.mono ?_
 rintro x w3 ⟨rfl,h3⟩
 have q3 := h3.three.cell 0
 simp [hvs] at q3
 have HT : Hid (∀ W,Calls Tryz.prog 96 #[.int .u8 (k : Int)] W fun e w' => e = .returned (.bool (hasT k)) ∧ w' = W) := fun W => hasTick_any W k hk8
 have H3 : Hid (Own w0 w3 _) := h3
 clear h3 q2
 go_wp2_with fail
 refine (HT.out _).mono ?_
 rintro x w3' ⟨rfl,rfl⟩
 clear HT q3
 by_cases hT : hasT k = true
 ·have q3 := H3.out.three.cell 3
  simp [hvs] at q3
  have H4 : Hid (Calls _ _ _ _ _) := pput w0 _ _ p b _ t 32 H3.out (by decide) (by omega) (by omega) (by simp [length_bitsN,wid15,wid015,length_var]; omega)
  rw [hT]
  have HTT : Hid (hasT k = true) := hT
  clear H3 hT
  go_wp2_with fail
  refine H4.out.mono ?_
  rintro x w4 ⟨rfl,h4⟩
  have q0 := h4.three.cell 0
  simp [hvs] at q0
  clear H4 q3
  by_cases hk : k = 2
  ·subst hk
   have q1 := h4.three.cell 3
   have q2 := h4.three.cell 4
   simp [hvs] at q1 q2
   have hst : s < t := by have := HR.out.bf; unfold bfit at this; simpa using this
   have e1 : ((t : Int) - (s : Int)) % 4294967296 = ((t - s : Nat) : Int) := by omega
   have e2 : (((t : Int) - (s : Int) - 1) % 4294967296) = ((t - s - 1 : Nat) : Int) := by omega
   have hP := pputVar w0 _ _ p b _ (t - s - 1) h4 (by omega) (by simp [length_bitsN,wid15,wid015,length_var]; omega)
   have H5 : Hid (∀ v : Int,v = ((t - s - 1 : Nat) : Int) → Calls Tryz.prog 128 #[.pointer (some ⟨p,0,none⟩),.int .u64 v] w4 _) := fun v hv => by rw [hv]; exact hP
   clear h4 e1 e2 hP
   go_wp2_with fail
   refine (H5.out _ (by omega)).mono ?_
   rintro x w5 ⟨rfl,h5⟩
   have H6 : Hid (Own w0 w5 _) := h5.three.tail
   clear h5 H5 q0 q1 q2
   go_wp2
   go_end0
   exact ⟨rfl,by unfold headB; rw [if_pos HTT.out,if_pos rfl]; simpa using H6.out⟩
  ·have e1 : ((k : Int) == 2) = false := by rw [beq_eq_false_iff_ne]; omega
   have H6 : Hid (Own w0 w4 _) := h4.three.tail
   have HK : Hid (k ≠ 2) := hk
   clear h4 hk
   go_wp2
   go_end0
   exact ⟨rfl,by unfold headB; rw [if_pos HTT.out,if_neg HK.out]; simpa using H6.out⟩
 ·have hT' : hasT k = false := by simpa using hT
  have hk : k ≠ 2 := by rintro rfl; exact hT rfl
  have e1 : ((k : Int) == 2) = false := by rw [beq_eq_false_iff_ne]; omega
  have q0 := H3.out.three.cell 0
  simp [hvs] at q0
  have H6 : Hid (Own w0 w3' _) := H3.out.three.tail
  have HK : Hid (k ≠ 2 ∧ ¬ hasT k = true) := ⟨hk,hT⟩
  rw [hT']
  clear H3 hT hT' hk
  go_wp2
  go_end0
  exact ⟨rfl,by unfold headB; rw [if_neg HK.out.2,if_neg HK.out.1]; simpa using H6.out⟩
theorem hcheck_any (w : World) (k c e t s : Nat) (hI : HIn k c e t s) : Calls Tryz.prog 83 #[.agg (hvs k c e t s)] w fun x w' => x = .returned (.int .i64 ((hchk k c e t s : Nat) : Int)) ∧ Fr Nobody w w' := by
 have HT : Hid (∀ W,Calls Tryz.prog 125 #[.agg (hvs k c e t s)] W fun x w' => x = .returned (.bool (tfit k t)) ∧ Fr Nobody W w') := fun W => tickFits_any W k c e t s hI
 have HB : Hid (∀ W,Calls Tryz.prog 126 #[.agg (hvs k c e t s)] W fun x w' => x = .returned (.bool (bfit k t s)) ∧ Fr Nobody W w') := fun W => baseFits_any W k c e t s hI
 have HA : Hid (Own w _ _) := (Own.start w).allocC (hvs k c e t s) 29
 by_cases h1 : k < 1
 ·have hc : hchk k c e t s = 1 := by unfold hchk; rw [if_pos (.inl h1)]
  rw [hc]
  have g1 : (k : Int) < 1 := by omega
  have HF : Hid (Fr Nobody w _) := HA.out.fr
  clear h1 hc HT HB HA hI
  unfold hvs at *
  go_enter Tryz.func83,Tryz.ntmps83
  go_wp2
  go_ret
  exact ⟨rfl,HF.out⟩
 ·have g1 : ¬ (k : Int) < 1 := by omega
  by_cases h2 : 5 < k
  ·have hc : hchk k c e t s = 1 := by unfold hchk; rw [if_pos (.inr (.inl h2))]
   rw [hc]
   have g2 : (5 : Int) < (k : Int) := by omega
   have HF : Hid (Fr Nobody w _) := HA.out.fr
   clear h1 h2 hc HT HB HA hI
   unfold hvs at *
   go_enter Tryz.func83,Tryz.ntmps83
   go_wp2
   go_ret
   exact ⟨rfl,HF.out⟩
  ·have g2 : ¬ (5 : Int) < (k : Int) := by omega
   by_cases h3 : 16 ≤ c
   ·have hc : hchk k c e t s = 1 := by unfold hchk; rw [if_pos (.inr (.inr h3))]
    rw [hc]
    have g3 : (16 : Int) ≤ (c : Int) := by omega
    have HF : Hid (Fr Nobody w _) := HA.out.fr
    clear h1 h2 h3 hc HT HB HA hI
    unfold hvs at *
    go_enter Tryz.func83,Tryz.ntmps83
    go_wp2
    go_ret
    exact ⟨rfl,HF.out⟩
   ·have g3 : ¬ (16 : Int) ≤ (c : Int) := by omega
    have hn : ¬ (k < 1 ∨ 5 < k ∨ 16 ≤ c) := by omega
    by_cases h4 : e = 0
    ·have hc : hchk k c e t s = 4 := by unfold hchk; rw [if_neg hn,if_pos (.inl h4)]
     rw [hc]
     subst h4
     have HF : Hid (Fr Nobody w _) := HA.out.fr
     clear h1 h2 h3 hn hc HT HB HA hI
     unfold hvs at *
     go_enter Tryz.func83,Tryz.ntmps83
     go_wp2
     go_ret
     exact ⟨rfl,HF.out⟩
    ·have g4 : ((e : Int) == 0) = false := by rw [beq_eq_false_iff_ne]; omega
     have hc : hchk k c e t s = if tfit k t = false ∨ bfit k t s = false then 4 else 0 := by
      unfold hchk
      rw [if_neg hn]
      simp [h4]
     rw [hc]
     clear h1 h2 h3 h4 hn hc hI
     generalize tfit k t = tf at *
     generalize bfit k t s = bf at *
     unfold hvs at *
     cases tf
     ·rw [if_pos (.inl rfl)]
      go_enter Tryz.func83,Tryz.ntmps83
      go_wp2_with fail
      refine (HT.out _).mono ?_
      rintro x w1 ⟨rfl,hf1⟩
      have HF : Hid (Fr Nobody w w1) := HA.out.fr.trans hf1
      clear hf1 HA HT HB
      go_wp2
      go_ret
      exact ⟨rfl,HF.out⟩
     ·cases bf
      ·rw [if_pos (.inr rfl)]
       go_enter Tryz.func83,Tryz.ntmps83
       go_wp2_with fail
       refine (HT.out _).mono ?_
       rintro x w1 ⟨rfl,hf1⟩
       have hA1 := HA.out.quiet hf1
       have r0 := hA1.cell 0
       have r1 := hA1.cell 1
       have r2 := hA1.cell 2
       have r3 := hA1.cell 3
       have r4 := hA1.cell 4
       simp at r0 r1 r2 r3 r4
       have HA1 : Hid (Own w w1 _) := hA1
       clear hf1 hA1 HA HT
       go_wp2_with fail
       refine (HB.out _).mono ?_
       rintro x w2 ⟨rfl,hf2⟩
       have HF : Hid (Fr Nobody w w2) := HA1.out.fr.trans hf2
       clear hf2 HA1 HB r0 r1 r2 r3 r4
       go_wp2
       go_ret
       exact ⟨rfl,HF.out⟩
      ·rw [if_neg (by simp)]
       go_enter Tryz.func83,Tryz.ntmps83
       go_wp2_with fail
       refine (HT.out _).mono ?_
       rintro x w1 ⟨rfl,hf1⟩
       have hA1 := HA.out.quiet hf1
       have r0 := hA1.cell 0
       have r1 := hA1.cell 1
       have r2 := hA1.cell 2
       have r3 := hA1.cell 3
       have r4 := hA1.cell 4
       simp at r0 r1 r2 r3 r4
       have HA1 : Hid (Own w w1 _) := hA1
       clear hf1 hA1 HA HT
       go_wp2_with fail
       refine (HB.out _).mono ?_
       rintro x w2 ⟨rfl,hf2⟩
       have HF : Hid (Fr Nobody w w2) := HA1.out.fr.trans hf2
       clear hf2 HA1 HB r0 r1 r2 r3 r4
       go_wp2
       go_ret
       exact ⟨rfl,HF.out⟩
theorem right_of {k c e t s : Nat} (hI : HIn k c e t s) (h : hchk k c e t s = 0) : Right k c e t s := by
 unfold hchk at h
 split at h
 ·cases h
 ·split at h
  ·cases h
  ·rename_i h1 h2
   simp only [not_or] at h1 h2
   refine ⟨by omega,by omega,by omega,by omega,hI.e,hI.t,hI.s,?_,?_⟩
   ·cases hh : tfit k t with
    | true => rfl
    | false => exact absurd hh h2.2.1
   ·cases hh : bfit k t s with
    | true => rfl
    | false => exact absurd hh h2.2.2
end Go.Proofs.YtgifeckbflkkpaaGreatDoor
