/- The document's Check. -/
import Derived.Test.YtgifeckbflkkpaaGreatDoorQp07
import Derived.Test.YtgifeckbflkkpaaGreatDoorQp06
namespace Go.Proofs.YtgifeckbflkkpaaGreatDoor
open Go.RowKit
set_option linter.unusedVariables false
set_option maxHeartbeats 2000000
set_option maxRecDepth 100000
theorem rcheck_any (w : World) (k : Nat) (hk : k < 256) (F : Nat → Int) :
  Calls Tryz.prog 107 #[.agg (cmp k F)] w fun e w' => e = .returned (.int .i64 ((chk k F : Nat) : Int)) ∧ Fr Nobody w w' := by
 have hc := cnt_le k
 have HC : Hid (∀ w,Calls Tryz.prog 108 #[.int .u8 (k : Int)] w fun e w' => e = .returned (.int .i64 ((cnt k : Nat) : Int)) ∧ Fr Nobody w w') := fun w => rcount_any w k hk
 have HB : Hid (Box (w.alloc (.cells (cmp k F) 63)) w.heap.size k F) := Box.new w k F
 have HF : Hid (Fr Nobody w (w.alloc (.cells (cmp k F) 63))) := (Fr.refl _ _).alloc _
 by_cases h6 : 6 ≤ k
 ·have e1 : chk k F = 1 := by unfold chk; rw [if_pos h6]
  rw [e1]
  rw [cnt_out k h6] at HC
  clear e1 hc
  unfold cmp at *
  go_enter Tryz.func107,Tryz.ntmps107
  go_wp2_with fail
  refine (HC.out _).mono ?_
  rintro e w1 ⟨rfl,hf1⟩
  have HF1 : Hid _ := HF.out.trans hf1
  clear hf1
  go_wp2
  go_ret
  exact ⟨rfl,HF1.out⟩
 ·have h1 := cnt_pos k (by omega)
  obtain ⟨c,ec⟩ : ∃ c,cnt k = c := ⟨_,rfl⟩
  have EC : Hid (cnt k = c) := ec
  rw [ec] at hc HC h1
  clear ec
  have HS4 : Hid (stray k F = true → chk k F = 4) := fun h => by unfold chk; rw [if_neg h6,if_pos h]
  have HS5 : Hid (stray k F = false → outside k F = true → chk k F = 5) := fun h h' => by unfold chk; rw [if_neg h6,h,if_neg (by decide),if_pos h']
  have HS0 : Hid (stray k F = false → outside k F = false → chk k F = 0) := fun h h' => by unfold chk; rw [if_neg h6,h,h',if_neg (by decide),if_neg (by decide)]
  unfold cmp
  have hc0 : ((c : Int) == 0) = false := by rw [beq_eq_false_iff_ne]; omega
  clear h1
  go_enter Tryz.func107,Tryz.ntmps107
  go_wp2_with fail
  refine (HC.out _).mono ?_
  rintro e w1 ⟨rfl,hf1⟩
  have HF1 : Hid _ := HF.out.trans hf1
  have HB1 : Hid _ := HB.out.quiet hf1
  clear hf1
  go_wp2
  go_loopw [4] (fun a wr => ∃ j : Nat,c ≤ j ∧ j ≤ 3 ∧ a = .int .i64 j ∧ (∀ i,c ≤ i → i < j → F i = 0) ∧ Box wr w.heap.size k F ∧ Fr Nobody w wr) (fun b _ => 3 - (intOf b).toNat)
  case atStart => exact ⟨c,Nat.le_refl _,hc,rfl,fun i h1 h2 => by omega,HB1.out,HF1.out⟩
  case round =>
   obtain ⟨j,hcj,hj,rfl,hz,hb,hf⟩ := hrel
   have HZ : Hid (∀ i,c ≤ i → i < j → F i = 0) := hz
   have HG1 : Hid (Fr Nobody w wr) := hf
   have HB2 : Hid (Box wr w.heap.size k F) := hb
   clear hf hz hb
   by_cases hlt : j < 3
   ·have hx := HB2.out.at j hlt
    by_cases h0 : F j = 0
    ·have HZ2 : Hid (∀ i,c ≤ i → i < j + 1 → F i = 0) := by
      intro i h1 h2
      by_cases e : i = j
      ·rw [e]; exact h0
      ·exact HZ.out i h1 (by omega)
     rw [h0] at hx
     clear h0
     go_wp2
     go_roundw
     case rel => exact ⟨j + 1,by omega,by omega,by go_num,HZ2.out,HB2.out,HG1.out⟩
     case measure => simp [intOf]; omega
    ·have HS : Hid (chk k F = 4) := HS4.out (stray_true k j F (by rw [EC.out]; exact hcj) hlt h0)
     have h1 : (F j != 0) = true := by simpa using h0
     generalize F j = x at *
     clear h0
     go_wp2
     go_ret
     exact ⟨by rw [HS.out]; rfl,HG1.out⟩
   ·have HS : Hid (stray k F = false) := stray_false k F (fun i h1 h2 => HZ.out i (by rw [← EC.out]; exact h1) (by omega))
    clear HZ hcj
    go_wp2
    clear HB HB1 HF HF1 HC
    go_loopw [25] (fun a wq => ∃ i : Nat,i ≤ c ∧ a = .int .i64 i ∧ (∀ t,t < i → lo k t ≤ F t ∧ F t ≤ hi k t) ∧ Box wq w.heap.size k F ∧ Fr Nobody w wq) (fun b _ => c - (intOf b).toNat)
    case atStart => exact ⟨0,Nat.zero_le _,rfl,fun i h1 => by omega,HB2.out,HG1.out⟩
    case round =>
     obtain ⟨i,hi0,rfl,hz,hb,hf⟩ := hrel
     have HZ : Hid (∀ t,t < i → lo k t ≤ F t ∧ F t ≤ hi k t) := hz
     have HG : Hid (Fr Nobody w wr) := hf
     have HB3 : Hid (Box wr w.heap.size k F) := hb
     clear hf hz hb
     by_cases hlt2 : i < c
     ·have hk0 := HB3.out.kind
      have HR : Hid (∀ w,Calls Tryz.prog 109 #[.int .u8 (k : Int),.int .i64 (i : Int)] w fun e w' => e = .returned (.tuple #[.int .i32 (lo k i),.int .i32 (hi k i),.int .i64 0]) ∧ Fr Nobody w w') := fun w => rrange_ok w k i (by rw [EC.out]; exact hlt2)
      by_cases h0 : F i < lo k i
      ·have HO : Hid (chk k F = 5) := HS5.out HS.out (outside_true k i F (by rw [EC.out]; exact hlt2) (.inl h0))
       go_wp2_with fail
       refine (HR.out _).mono ?_
       rintro e w2 ⟨rfl,hf2⟩
       have HG2 : Hid _ := HG.out.trans hf2
       have hx := (HB3.out.quiet hf2).at i (by omega)
       clear hf2 HR
       generalize F i = x at *
       generalize lo k i = a at *
       generalize hi k i = b at *
       go_wp2
       go_ret
       exact ⟨by rw [HO.out]; rfl,HG2.out⟩
      ·by_cases h1 : hi k i < F i
       ·have HO : Hid (chk k F = 5) := HS5.out HS.out (outside_true k i F (by rw [EC.out]; exact hlt2) (.inr h1))
        go_wp2_with fail
        refine (HR.out _).mono ?_
        rintro e w2 ⟨rfl,hf2⟩
        have HG2 : Hid _ := HG.out.trans hf2
        have hx := (HB3.out.quiet hf2).at i (by omega)
        clear hf2 HR
        generalize F i = x at *
        generalize lo k i = a at *
        generalize hi k i = b at *
        have d0 : decide (x < a) = false := by simpa using h0
        have d1 : decide (b < x) = true := by simpa using h1
        clear h0 h1
        go_wp2
        go_ret
        exact ⟨by rw [HO.out]; rfl,HG2.out⟩
       ·have HZ2 : Hid (∀ t,t < i + 1 → lo k t ≤ F t ∧ F t ≤ hi k t) := by
         intro t h2
         by_cases e : t = i
         ·rw [e]; omega
         ·exact HZ.out t (by omega)
        go_wp2_with fail
        refine (HR.out _).mono ?_
        rintro e w2 ⟨rfl,hf2⟩
        have HG2 : Hid _ := HG.out.trans hf2
        have HB4 : Hid (Box w2 w.heap.size k F) := HB3.out.quiet hf2
        have hx := HB4.out.at i (by omega)
        clear hf2 HR
        generalize F i = x at *
        generalize lo k i = a at *
        generalize hi k i = b at *
        have d0 : decide (x < a) = false := by simpa using h0
        have d1 : decide (b < x) = false := by simpa using h1
        clear h0 h1
        go_wp2
        go_roundw
        case rel => exact ⟨i + 1,by omega,by go_num,HZ2.out,HB4.out,HG2.out⟩
        case measure => simp [intOf]; omega
     ·have HO : Hid (chk k F = 0) := HS0.out HS.out (outside_false k F (fun t h1 => HZ.out t (by rw [EC.out] at h1; omega)))
      go_wp2
      go_ret
      exact ⟨by rw [HO.out]; rfl,HG.out⟩
def f3 (a b c : Int) : Nat → Int
 | 0 => a
 | 1 => b
 | 2 => c
 | _ => 0
theorem check3 (w : World) (ht : Tab w) (k : Nat) (hk : k < 256) (a b c : Int) :
  Calls Tryz.prog 147 #[.agg #[.int .u8 (k : Int),.int .i32 a,.int .i32 b,.int .i32 c]] w fun e w' => e = .returned (.int .i64 ((chk k (f3 a b c) : Nat) : Int)) ∧ Fr Nobody w w' := check_any w ht k hk (f3 a b c)
theorem rcheck3 (w : World) (k : Nat) (hk : k < 256) (a b c : Int) :
  Calls Tryz.prog 107 #[.agg #[.int .u8 (k : Int),.int .i32 a,.int .i32 b,.int .i32 c]] w fun e w' => e = .returned (.int .i64 ((chk k (f3 a b c) : Nat) : Int)) ∧ Fr Nobody w w' := rcheck_any w k hk (f3 a b c)
end Go.Proofs.YtgifeckbflkkpaaGreatDoor
namespace Go.Proofs.YtgifeckbflkkpaaGreatDoor
open Go.ChangeShapes Go.WideShapes Go.ChangeAt Go.WideMaps Go.WideElems Go.RowKit
set_option linter.unusedVariables false
set_option maxHeartbeats 2000000
set_option maxRecDepth 100000
theorem cellsComp : Tryz.prog.cellsOf 63 = 4 := by kernel_rfl
theorem cellsA3 : Tryz.prog.cellsOf 61 = 3 := by kernel_rfl
theorem cellsByte : Tryz.prog.cellsOf 5 = 1 := by kernel_rfl
theorem cellsI32 : Tryz.prog.cellsOf 21 = 1 := by kernel_rfl
def cdat {H : Type} (k : Int) (a b c : Int) : DataW H := .agg [.lit (.int .u8 k),.agg [.lit (.int .i32 a),.lit (.int .i32 b),.lit (.int .i32 c)]]
def ok8 (k : Int) : Prop := (Lit.int .u8 k).wf = true
def ok32 (a : Int) : Prop := (Lit.int .i32 a).wf = true
theorem comp_cells {H : Type} {enc : TypeId × Value → H} {W : World} {base : Nat} {sp : Nat → Bool} {held : Bool} {fuel : Nat} {cs : List Value} {x : DataW H × List MemPlace}
  (h : DataW.trod enc Tryz.prog W base sp held fuel 63 cs = some x) : ∃ k a b c,ok8 k ∧ ok32 a ∧ ok32 b ∧ ok32 c ∧ cs = [.int .u8 k,.int .i32 a,.int .i32 b,.int .i32 c] ∧ x = (cdat k a b c,[]) := by
 obtain ⟨xs,n,_,hx,hl,hlen,hf⟩ := DataW.trod_struct Tryz.underlying63 h
 rw [cellsComp] at hl
 match cs,hl with
 | [c0,c1,c2,c3],_ =>
 match xs,hlen with
 | [y0,y1],_ =>
  have h0 := hf 0 _ rfl
  have h1 := hf 1 _ rfl
  simp [cellsByte,cellsA3] at h0 h1
  obtain ⟨k,e0,e0',w0⟩ := DataW.trod_int Tryz.underlying5 h0
  obtain ⟨zs,m,_,hz,hzl,hzlen,hzf⟩ := DataW.trod_array Tryz.underlying61 h1
  match zs,hzlen with
  | [z0,z1,z2],_ =>
   have g0 := hzf 0 (by decide)
   have g1 := hzf 1 (by decide)
   have g2 := hzf 2 (by decide)
   simp [cellsI32] at g0 g1 g2
   obtain ⟨a,a0,a1,wa⟩ := DataW.trod_int Tryz.underlying21 g0
   obtain ⟨b,b0,b1,wb⟩ := DataW.trod_int Tryz.underlying21 g1
   obtain ⟨c,k0,k1,wc⟩ := DataW.trod_int Tryz.underlying21 g2
   simp at e0 a0 b0 k0
   subst e0 a0 b0 k0 e0' a1 b1 k1 hz hx
   exact ⟨k,a,b,c,w0,wa,wb,wc,rfl,by simp [cdat]⟩
theorem ok8_nat {k : Int} (h : ok8 k) : ∃ n : Nat,k = n ∧ n < 256 := by
 have : 0 ≤ k ∧ k ≤ 255 := by simpa [ok8,Lit.wf,IntKind.min,IntKind.max,IntKind.signed,IntKind.bits] using h
 exact ⟨k.toNat,by omega,by omega⟩
theorem Box.cells {w : World} {b k : Nat} {F : Nat → Int} (h : Box w b k F) : w.cell? ⟨b,0,none⟩ = some (.int .u8 (k : Int)) ∧ w.cell? ⟨b,1,none⟩ = some (.int .i32 (F 0)) ∧ w.cell? ⟨b,2,none⟩ = some (.int .i32 (F 1)) ∧ w.cell? ⟨b,3,none⟩ = some (.int .i32 (F 2)) :=
 ⟨h.kind,h.at 0 (by decide),h.at 1 (by decide),h.at 2 (by decide)⟩
def g5 (M : List Bool) : Nat := num (M.take 5)
def gvAux : Nat → Nat → Nat → List Bool → Int × Nat × Nat
 | 0,_,_,_ => (4,0,0)
 | n + 1,i,v,M =>
  if M.length < 5 then (2,0,0)
  else if 16 ≤ g5 M then gvAux n (i + 1) (v + g5 M % 16 * 2 ^ (4 * i)) (M.drop 5)
  else if grp (v + g5 M % 16 * 2 ^ (4 * i)) ≠ i + 1 then (4,0,0)
  else (0,v + g5 M % 16 * 2 ^ (4 * i),5 * (i + 1))
def gv (M : List Bool) : Int × Nat × Nat := gvAux 16 0 0 M
theorem vstep_lt (v g i : Nat) (hv : v < 2 ^ (4 * i)) : v + g % 16 * 2 ^ (4 * i) < 2 ^ (4 * (i + 1)) := by
 have h : g % 16 < 16 := Nat.mod_lt _ (by decide)
 have e : 2 ^ (4 * (i + 1)) = 16 * 2 ^ (4 * i) := by rw [show 4 * (i + 1) = 4 * i + 4 from by omega,Nat.pow_add]; omega
 rw [e]
 have h2 : g % 16 * 2 ^ (4 * i) ≤ 15 * 2 ^ (4 * i) := Nat.mul_le_mul_right _ (by omega)
 omega
end Go.Proofs.YtgifeckbflkkpaaGreatDoor
namespace Go.Proofs.YtgifeckbflkkpaaGreatDoor
open Go.RowKit
set_option linter.unusedVariables false
set_option maxHeartbeats 2000000
set_option maxRecDepth 100000
theorem lt_bitLen' (x : Nat) (h : x < 18446744073709551616) : x < 2 ^ Lib.bitLen x := by
 induction x using Nat.strongRecOn with
 | ind x ih =>
  by_cases h0 : x = 0
  ·subst h0; exact Nat.two_pow_pos _
  ·rw [Lib.bitLen_half x h0 h,Nat.add_comm,Nat.pow_succ]
   have := ih (x / 2) (by omega) (by omega)
   omega
theorem lt_grp (v : Nat) (h : v < 18446744073709551616) : v < 2 ^ (4 * grp v) := by
 have h1 := lt_bitLen' v h
 have h2 : 2 ^ Lib.bitLen v ≤ 2 ^ (4 * grp v) := Nat.pow_le_pow_right (by decide) (by unfold grp; omega)
 omega
def varFrom (v n : Nat) : Nat → Nat → List Bool
 | _,0 => []
 | k,m + 1 => bitsN 5 (grpAt v n k) ++ varFrom v n (k + 1) m
theorem varTo_from (v n k m : Nat) : varTo v n k ++ varFrom v n k m = varTo v n (k + m) := by
 induction m generalizing k with
 | zero => simp [varFrom]
 | succ m ih =>
  rw [varFrom,← List.append_assoc,← varTo,ih (k + 1)]
  congr 1; omega
theorem var_from (v : Nat) : var v = varFrom v (grp v) 0 (grp v) := by
 have h := varTo_from v (grp v) 0 (grp v)
 rw [Nat.zero_add] at h
 exact h.symm
theorem g5_group (x : Nat) (hx : x < 32) (R : List Bool) : g5 (bitsN 5 x ++ R) = x ∧ (bitsN 5 x ++ R).drop 5 = R ∧ ¬ (bitsN 5 x ++ R).length < 5 := by
 refine ⟨?_,?_,?_⟩
 ·unfold g5; rw [List.take_left' (length_bitsN 5 x),num_bitsN]; exact Nat.mod_eq_of_lt hx
 ·rw [List.drop_left' (length_bitsN 5 x)]
 ·rw [List.length_append,length_bitsN]; omega
theorem mod_step (v k : Nat) : v % 2 ^ (4 * k) + v / 2 ^ (4 * k) % 16 * 2 ^ (4 * k) = v % 2 ^ (4 * (k + 1)) := by
 rw [show 4 * (k + 1) = 4 * k + 4 from by omega,Nat.pow_add,Nat.mod_mul,Nat.mul_comm (2 ^ (4 * k)) (v / 2 ^ (4 * k) % 2 ^ 4)]
theorem gvAux_var (v : Nat) (hv : v < 18446744073709551616) (R : List Bool) (m k : Nat) (hk : k + (m + 1) = grp v) : gvAux (16 - k) k (v % 2 ^ (4 * k)) (varFrom v (grp v) k (m + 1) ++ R) = (0,v,5 * grp v) := by
 have hb := grp_bd v hv
 induction m generalizing k with
 | zero =>
  rw [varFrom,varFrom,List.append_nil,show 16 - k = (15 - k) + 1 from by omega,gvAux]
  obtain ⟨a,b,c⟩ := g5_group (grpAt v (grp v) k) (grpAt_lt _ _ _) R
  rw [if_neg c,a]
  have e : grpAt v (grp v) k = v / 2 ^ (4 * k) % 16 := by unfold grpAt; rw [if_neg (by omega)]; rfl
  rw [e,if_neg (by have := Nat.mod_lt (v / 2 ^ (4 * k)) (show 0 < 16 by decide); omega),Nat.mod_mod,mod_step]
  have ek : k + 1 = grp v := by omega
  rw [ek,Nat.mod_eq_of_lt (lt_grp v hv),if_neg (by simp)]
 | succ m ih =>
  rw [varFrom,List.append_assoc,show 16 - k = (15 - k) + 1 from by omega,gvAux]
  obtain ⟨a,b,c⟩ := g5_group (grpAt v (grp v) k) (grpAt_lt _ _ _) (varFrom v (grp v) (k + 1) (m + 1) ++ R)
  rw [if_neg c,a,b]
  have e : grpAt v (grp v) k = v / 2 ^ (4 * k) % 16 + 16 := by unfold grpAt; rw [if_pos (by omega)]
  have e2 : (v / 2 ^ (4 * k) % 16 + 16) % 16 = v / 2 ^ (4 * k) % 16 := by omega
  rw [e,if_pos (by omega),e2,mod_step,show 15 - k = 16 - (k + 1) from by omega]
  exact ih (k + 1) (by omega)
theorem gv_var (v : Nat) (hv : v < 18446744073709551616) (R : List Bool) : gv (var v ++ R) = (0,v,5 * grp v) := by
 have hb := grp_bd v hv
 obtain ⟨m,hm⟩ : ∃ m,grp v = m + 1 := ⟨grp v - 1,by omega⟩
 have h := gvAux_var v hv R m 0 (by omega)
 rw [Nat.mul_zero,Nat.pow_zero,Nat.mod_one,Nat.sub_zero] at h
 unfold gv
 rw [var_from,hm]
 rw [hm] at h
 exact h
theorem bitLen_ge (x : Nat) (h0 : x ≠ 0) (h : x < 18446744073709551616) : 2 ^ (Lib.bitLen x - 1) ≤ x := by
 induction x using Nat.strongRecOn with
 | ind x ih =>
  rw [Lib.bitLen_half x h0 h]
  by_cases h1 : x / 2 = 0
  ·rw [h1,bitLen0]; simp; omega
  ·have h2 := ih (x / 2) (by omega) h1 (by omega)
   have h3 : Lib.bitLen (x / 2) ≠ 0 := by
    intro e
    have h4 := lt_bitLen' (x / 2) (by omega)
    rw [e] at h4; omega
   obtain ⟨m,hm⟩ : ∃ m,Lib.bitLen (x / 2) = m + 1 := ⟨Lib.bitLen (x / 2) - 1,by omega⟩
   rw [hm] at h2 ⊢
   rw [show 1 + (m + 1) - 1 = m + 1 from by omega,Nat.pow_succ]
   rw [show m + 1 - 1 = m from by omega] at h2
   omega
theorem grp_more (v i : Nat) (hv : v < 18446744073709551616) : i + 1 < grp v ↔ v / 2 ^ (4 * (i + 1)) ≠ 0 := by
 constructor
 ·intro h
  have hb : 4 * (i + 1) < Lib.bitLen v := by unfold grp at h; omega
  have h0 : v ≠ 0 := by rintro rfl; rw [bitLen0] at hb; omega
  have h1 := bitLen_ge v h0 hv
  have h2 : 2 ^ (4 * (i + 1)) ≤ 2 ^ (Lib.bitLen v - 1) := Nat.pow_le_pow_right (by decide) (by omega)
  intro e
  rw [Nat.div_eq_zero_iff_lt (Nat.two_pow_pos _)] at e
  omega
 ·intro h
  rcases Nat.lt_or_ge (i + 1) (grp v) with c | c
  ·exact c
  ·exfalso
   have h1 := lt_grp v hv
   have h2 : 2 ^ (4 * grp v) ≤ 2 ^ (4 * (i + 1)) := Nat.pow_le_pow_right (by decide) (by omega)
   exact h (Nat.div_eq_of_lt (by omega))
theorem bits_group (v n i : Nat) (b : Bool) (hb : b = decide (i + 1 < n)) : bitsN 5 (grpAt v n i) = bitsN 4 (v / 2 ^ (4 * i)) ++ [b] := by
 subst hb
 unfold grpAt
 generalize v / 2 ^ (4 * i) = y
 by_cases c : i + 1 < n
 ·rw [if_pos c]
  have e0 : (y % 16 + 16) % 2 = y % 2 := by omega
  have e1 : (y % 16 + 16) / 2 % 2 = y / 2 % 2 := by omega
  have e2 : (y % 16 + 16) / 2 / 2 % 2 = y / 2 / 2 % 2 := by omega
  have e3 : (y % 16 + 16) / 2 / 2 / 2 % 2 = y / 2 / 2 / 2 % 2 := by omega
  have e4 : (y % 16 + 16) / 2 / 2 / 2 / 2 % 2 = 1 := by omega
  simp only [bitsN,e0,e1,e2,e3,e4,c]
  simp
 ·rw [if_neg c]
  have e0 : (y % 16 + 0) % 2 = y % 2 := by omega
  have e1 : (y % 16 + 0) / 2 % 2 = y / 2 % 2 := by omega
  have e2 : (y % 16 + 0) / 2 / 2 % 2 = y / 2 / 2 % 2 := by omega
  have e3 : (y % 16 + 0) / 2 / 2 / 2 % 2 = y / 2 / 2 / 2 % 2 := by omega
  have e4 : (y % 16 + 0) / 2 / 2 / 2 / 2 % 2 = 0 := by omega
  simp only [bitsN,e0,e1,e2,e3,e4,c]
  simp
theorem div16 (v i : Nat) : v / 2 ^ (4 * i) / 2 ^ 4 = v / 2 ^ (4 * (i + 1)) := by
 rw [Nat.div_div_eq_div_mul,← Nat.pow_add]; congr 1
theorem rvar_any (w : World) (v : Nat) (hv : v < 18446744073709551616) : Calls Tryz.prog 76 #[.int .u64 (v : Int)] w fun e w' => ∃ u,e = .returned u ∧ Bo w.heap.size w' u (var v) ∧ Fr Nobody w w' := by
 obtain ⟨i0,hi,hz0,hz1,hz2⟩ := info_parts Tryz.infoBool
 have hg := grp_bd v hv
 have HM : Hid (∀ i,i + 1 < grp v ↔ v / 2 ^ (4 * (i + 1)) ≠ 0) := fun i => grp_more v i hv
 have HV : Hid (var v = varTo v (grp v) (grp v)) := rfl
 generalize var v = vv at *
 generalize grp v = n at *
 go_enter Tryz.func76,Tryz.ntmps76
 go_wp2
 go_loopw [0,3] (fun xv u wr => ∃ i y : Nat,i < n ∧ y = v / 2 ^ (4 * i) ∧ y < 18446744073709551616 ∧ xv = .int .u64 (y : Int) ∧ Bo w.heap.size wr u (varTo v n i) ∧ Fr Nobody w wr) (fun xv _ _ => (intOf xv).toNat)
 case atStart => exact ⟨0,v,by omega,by simp,hv,rfl,Bo.nil _ _,Fr.refl _ _⟩
 case round =>
  obtain ⟨i,y,hin,hy,hyl,rfl,hB,hf⟩ := hrel
  have H1 : Hid (Bo w.heap.size wr _ (varTo v n i) ∧ Fr Nobody w wr) := ⟨hB,hf⟩
  have HY : Hid (y = v / 2 ^ (4 * i)) := hy
  have HL : Hid ((varTo v n i).length = 5 * i) := length_varTo v n i
  clear hB hf hy
  go_wp2
  go_loopw [0,3,4] (fun xv u c wr2 => ∃ j z : Nat,j ≤ 4 ∧ c = .int .i64 j ∧ z = y / 2 ^ j ∧ xv = .int .u64 (z : Int) ∧ Bo w.heap.size wr2 u (varTo v n i ++ bitsN j y) ∧ Fr Nobody w wr2) (fun _ _ c _ => 4 - (intOf c).toNat)
  case atStart => exact ⟨0,y,by decide,rfl,by simp,rfl,by simpa [bitsN] using H1.out.1,H1.out.2⟩
  case round =>
   obtain ⟨j,z,hj,rfl,hz,rfl,hB,hf⟩ := hrel
   have HZ : Hid (z = y / 2 ^ j) := hz
   have hz2 : z < 18446744073709551616 := by rw [hz]; exact Nat.lt_of_le_of_lt (Nat.div_le_self _ _) hyl
   have hsz := hf.size
   clear hz
   by_cases hj4 : j < 4
   ·obtain ⟨bb,hbb⟩ : ∃ bb : Bool,(((z : Int) % 2 == 1) : Bool) = bb := ⟨_,rfl⟩
    have HB : Hid ((y / 2 ^ j % 2 == 1) = bb) := by
     show _ = _
     rw [← hbb,← HZ.out,Bool.eq_iff_iff]; simp; omega
    have hln : (varTo v n i ++ bitsN j y).length ≤ 100000 := by rw [List.length_append,length_bitsN,HL.out]; omega
    go_wp2_with (at_builtin; refine wpList_append_own _ rfl _ _ 75 rfl w.heap.size 4 i0 (.bool false) 1 1 Tryz.underlying75 hi hz0 hz1 ‹_› rfl (by decide) _ _ _ rfl (World.ownsRow.alloc hB _) ⟨_,0,none⟩ 1 1 [.bool bb] rfl rfl (cell_one_new _ _ _) (one_bool _) (by unfold maxLen; omega) (by omega) (by simp; omega) ?_)
    intro u' w2 ho2 hg2 _
    have H2 : Hid (Bo w.heap.size w2 u' (varTo v n i ++ bitsN (j + 1) y) ∧ Fr Nobody w w2) := by
     refine ⟨?_,(hf.alloc _).grown hg2 (fun q hq => .inr (World.ownsRow.lt hB q hq).1)⟩
     unfold Bo
     rw [bitsN_snoc,HB.out,← List.append_assoc,brow_append (varTo v n i ++ bitsN j y),show (varTo v n i ++ bitsN j y ++ [bb]).length = (varTo v n i).length + (bitsN j y).length + 1 from by rw [List.length_append,List.length_append]; rfl]
     exact ho2
    have HY2 : Hid (z / 2 = y / 2 ^ (j + 1)) := by show _ = _; rw [HZ.out,half_pow]
    clear hB hf ho2 hg2 HB HZ hbb hln
    go_wp2
    go_roundw
    case rel => exact ⟨j + 1,z / 2,by omega,by go_num,HY2.out,by go_num,H2.out.1,H2.out.2⟩
    case measure => simp [intOf]; omega
   ·have ej : j = 4 := by omega
    subst ej
    have HZ2 : Hid (z = v / 2 ^ (4 * (i + 1))) := by show _ = _; rw [HZ.out,HY.out,div16]
    have hln : (varTo v n i ++ bitsN 4 y).length ≤ 100000 := by rw [List.length_append,length_bitsN,HL.out]; omega
    have hm : z < y ∨ y = 0 := by have := HZ.out; omega
    have HZX : Hid (z ≤ y) := by have := HZ.out; show _ ≤ _; omega
    obtain ⟨bb,hbb⟩ : ∃ bb : Bool,decide (0 < z) = bb := ⟨_,rfl⟩
    have HG : Hid (varTo v n (i + 1) = varTo v n i ++ bitsN 4 y ++ [bb]) := by
     show _ = _
     rw [varTo,bits_group v n i bb,← HY.out,List.append_assoc]
     rw [← hbb]
     have := HM.out i
     rw [← HZ2.out] at this
     rw [decide_eq_decide,this]; omega
    have hd : decide ((4 : Int) < 4) = false := by decide
    go_wp2_with (at_builtin; refine wpList_append_own _ rfl _ _ 75 rfl w.heap.size 4 i0 (.bool false) 1 1 Tryz.underlying75 hi hz0 hz1 ‹_› rfl (by decide) _ _ _ rfl (World.ownsRow.alloc hB _) ⟨_,0,none⟩ 1 1 [.bool bb] rfl rfl (cell_one_new _ _ _) (one_bool _) (by unfold maxLen; omega) (by omega) (by simp; omega) ?_)
    intro u' w2 ho2 hg2 _
    have H2 : Hid (Bo w.heap.size w2 u' (varTo v n (i + 1)) ∧ Fr Nobody w w2) := by
     refine ⟨?_,(hf.alloc _).grown hg2 (fun q hq => .inr (World.ownsRow.lt hB q hq).1)⟩
     rw [HG.out]
     unfold Bo
     rw [brow_append (varTo v n i ++ bitsN 4 y),show (varTo v n i ++ bitsN 4 y ++ [bb]).length = (varTo v n i).length + (bitsN 4 y).length + 1 from by rw [List.length_append,List.length_append]; rfl]
     exact ho2
    have HI : Hid (i + 1 < n ↔ z ≠ 0) := by have := HM.out i; rw [← HZ2.out] at this; exact this
    clear hB hf ho2 hg2 HG HZ hbb hln HY
    by_cases z0 : z = 0
    ·have H3 : Hid (Bo w.heap.size w2 u' vv ∧ Fr Nobody w w2) := by
      have e : i + 1 = n := by have := HI.out; omega
      have h2 := H2.out
      rw [e] at h2
      exact ⟨by rw [HV.out]; exact h2.1,h2.2⟩
     clear HI HM H2 HZ2 hm HZX
     subst z0
     go_wp2
     go_ret
     exact ⟨_,rfl,H3.out.1,H3.out.2⟩
    ·have hi1 : i + 1 < n := HI.out.2 z0
     have tz : ((z : Int) == 0) = false := by simp; omega
     have HX : Hid (z < y) := by rcases hm with h | h; exact h; exact absurd (by have := HZX.out; omega) z0
     clear HI HM hm HZX
     go_wp2
     go_roundw
     case rel => exact ⟨i + 1,z,hi1,HZ2.out,hz2,rfl,H2.out.1,H2.out.2⟩
     case measure => have := HX.out; simp [intOf]; omega
theorem rzig_any (n : Int) (w : World) (h0 : -9223372036854775808 ≤ n) (h1 : n ≤ 9223372036854775807) :
  Calls Tryz.prog 111 #[.int .i64 n] w fun e w' => e = .returned (.int .u64 (zig n : Nat)) ∧ w' = w := by
 by_cases h : n < 0
 ·have e : zig n = (-2 * n - 1).toNat := by unfold zig; rw [if_pos h]
  rw [e]
  clear e
  go_enter Tryz.func111,Tryz.ntmps111
  go_wp2
  go_ret
  exact ⟨ret_int (by omega),rfl⟩
 ·have e : zig n = (2 * n).toNat := by unfold zig; rw [if_neg h]
  have h' : 0 ≤ n := by omega
  rw [e]
  clear e
  go_enter Tryz.func111,Tryz.ntmps111
  go_wp2
  go_ret
  exact ⟨ret_int (by omega),rfl⟩
theorem num_zeros (n : Nat) : num (List.replicate n false) = 0 := by
 induction n with
 | zero => rfl
 | succ n ih => rw [List.replicate_succ,num,ih]; rfl
def Pair (w0 w : World) (b : Nat) (L : List Bool) (u : Value) (M : List Bool) : Prop := Ow w0 w b L ∧ Bo w0.heap.size w u M
theorem Pair.quiet {w0 w w' : World} {b : Nat} {L : List Bool} {u : Value} {M : List Bool} (h : Pair w0 w b L u M) (hf : Fr Nobody w w') : Pair w0 w' b L u M := ⟨h.1.quiet hf,h.2.quiet hf⟩
end Go.Proofs.YtgifeckbflkkpaaGreatDoor
