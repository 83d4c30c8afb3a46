/- How many bits a component has behind another one: stepSize, Size, SizeStep of package comp; the document's examples of layer 6. -/
import Derived.Test.YtgifeckbflkkpaaGreatDoorQf11
import Derived.Laws.StructEq
import Derived.ChangeKeysEq
import Derived.Test.YtgifeckbflkkpaaGreatDoorQf07
namespace Go.Proofs.YtgifeckbflkkpaaGreatDoor
open Go.RowKit
set_option linter.unusedVariables false
set_option maxHeartbeats 2000000
set_option maxRecDepth 100000
def mz (F G : Nat → Int) (j : Nat) : Nat := zig (G j - F j)
def fsz (k : Nat) (F G : Nat → Int) (j : Nat) : Nat := if mz F G j = 0 then 1 else if mz F G j ≤ 16 then 6 else 2 + wd k j
def ssum (k : Nat) (F G : Nat → Int) : Nat → Nat
 | 0 => 0
 | n + 1 => ssum k F G n + fsz k F G n
theorem fsz_le (k : Nat) (F G : Nat → Int) (j : Nat) (h : j < cnt k) : 1 ≤ fsz k F G j ∧ fsz k F G j ≤ 22 := by
 have := wd_le k j h
 unfold fsz; split
 ·omega
 ·split <;> omega
theorem ssum_le (k n : Nat) (F G : Nat → Int) (h : n ≤ cnt k) : ssum k F G n ≤ 22 * n := by
 induction n with
 | zero => simp [ssum]
 | succ n ih =>
  have := ih (by omega)
  have := fsz_le k F G n (by omega)
  simp only [ssum]; omega
theorem fieldStepSize_any (w : World) (ht : Tab w) (k k0 j : Nat) (hk : k < 256) (hj : j < cnt k) (F G : Nat → Int) (hF : I32 F) (hG : I32 G) :
  Calls Tryz.prog 246 #[.agg (cmp k0 F),.agg (cmp k G),.int .i64 (j : Int)] w fun e w' => e = .returned (.int .i64 ((fsz k F G j : Nat) : Int)) ∧ Fr Nobody w w' := by
 obtain ⟨b1,b2,hf⟩ := boxes w k0 k F G
 have H : Hid (Tab w) := ht
 have hc := cnt_le k
 have hj3 : j < 3 := by omega
 have x1 := b1.at j hj3
 have x2 := b2.at j hj3
 have x3 := b2.kind
 have HF : Hid _ := hf
 have hm : fsz k F G j = (if mz F G j = 0 then 1 else if mz F G j ≤ 16 then 6 else 2 + wd k j) := rfl
 have M : Hid (∀ w,Calls Tryz.prog 247 #[.int .i32 (F j),.int .i32 (G j)] w fun e w' => e = .returned (.int .u64 ((mz F G j : Nat) : Int)) ∧ w' = w) := fun w => more_any w (F j) (G j) (hF j hj3) (hG j hj3)
 have R : Hid (∀ w,Tab w → _) := fun w h => range_ok w h k hk j hj
 obtain ⟨l0,l1,l2,l3⟩ := rng_ok k j hj
 have WD : Hid (∀ w,Calls Tryz.prog 165 #[.int .i64 (lo k j),.int .i64 (hi k j)] w fun e w' => e = .returned (.int .i64 (wd k j : Nat)) ∧ w' = w) := fun w => width_any (lo k j) (hi k j) w (by omega) (by omega) (by omega) (by omega)
 have hw := wd_le k j hj
 rw [hm]
 clear hm hF hG b1 ht hf hj hc
 have HB2 : Hid _ := b2
 clear b2
 generalize mz F G j = z at *
 generalize wd k j = d at *
 generalize lo k j = a at *
 generalize hi k j = b at *
 by_cases h0 : z = 0
 ·rw [if_pos h0]
  subst h0
  unfold cmp at *
  generalize F j = f at *
  generalize G j = g at *
  go_enter Tryz.func246,Tryz.ntmps246
  go_wp2_with fail
  go_quiet (refine Calls.quiet_of_same (M.out _))
  have HG : Hid _ := HF.out.drewN nq
  go_wp2
  go_ret
  exact ⟨rfl,HG.out⟩
 ·rw [if_neg h0]
  have n0 : ((z : Int) == 0) = false := by rw [beq_eq_false_iff_ne]; omega
  by_cases h1 : z ≤ 16
  ·rw [if_pos h1]
   unfold cmp at *
   generalize F j = f at *
   generalize G j = g at *
   clear h0
   go_enter Tryz.func246,Tryz.ntmps246
   go_wp2_with fail
   go_quiet (refine Calls.quiet_of_same (M.out _))
   have HG : Hid _ := HF.out.drewN nq
   go_wp2
   go_ret
   exact ⟨rfl,HG.out⟩
  ·rw [if_neg h1]
   unfold cmp at *
   generalize F j = f at *
   generalize G j = g at *
   clear h0
   go_enter Tryz.func246,Tryz.ntmps246
   go_wp2_with fail
   go_quiet (refine Calls.quiet_of_same (M.out _))
   have HG : Hid _ := HF.out.drewN nq
   go_wp2_with fail
   refine (R.out _ (H.out.quiet HG.out)).mono ?_
   rintro e w1 ⟨rfl,hf1⟩
   have HG1 : Hid _ := HG.out.trans hf1
   clear hf1
   go_wp2_with fail
   refine (WD.out _).mono ?_
   rintro e w2 ⟨rfl,rfl⟩
   go_wp2
   go_ret
   refine ⟨?_,HG1.out⟩
   simp
theorem stepSize_any (w : World) (ht : Tab w) (k k0 : Nat) (hk : k < 256) (F G : Nat → Int) (hF : I32 F) (hG : I32 G) :
  Calls Tryz.prog 230 #[.agg (cmp k0 F),.agg (cmp k G)] w fun e w' => e = .returned (.int .i64 ((ssum k F G (cnt k) : Nat) : Int)) ∧ Fr Nobody w w' := by
 obtain ⟨b1,b2,hf⟩ := boxes w k0 k F G
 have H : Hid (Tab w) := ht
 have hc := cnt_le k
 have HF : Hid (Fr Nobody w _) := hf
 have HB1 : Hid (Box _ w.heap.size k0 F) := b1
 have HB2 : Hid (Box _ (w.heap.size + 1) k G) := b2
 obtain ⟨c,ec⟩ : ∃ c,cnt k = c := ⟨_,rfl⟩
 have EC : Hid (cnt k = c) := ec
 have S : Hid (∀ w j,Tab w → j < c → Calls Tryz.prog 246 #[.agg (cmp k0 F),.agg (cmp k G),.int .i64 ((j : Nat) : Int)] w fun e w' => e = .returned (.int .i64 ((fsz k F G j : Nat) : Int)) ∧ Fr Nobody w w') := fun w j h hj => fieldStepSize_any w h k k0 j hk (by rw [ec]; exact hj) F G hF hG
 have C : Hid (∀ w,Tab w → Calls Tryz.prog 203 #[.int .u8 (k : Int)] w fun e w' => e = .returned (.int .i64 (c : Int)) ∧ w' = w) := fun w h => by have := count_any w h k hk; rw [ec] at this; exact this
 have L : Hid (∀ n,n ≤ c → ssum k F G n ≤ 22 * n) := fun n hn => ssum_le k n F G (by rw [ec]; exact hn)
 have L2 : Hid (∀ j,j < c → fsz k F G j ≤ 22) := fun j hj => (fsz_le k F G j (by rw [ec]; exact hj)).2
 rw [ec] at hc
 rw [ec]
 clear ht hf b1 b2 ec hF hG
 unfold cmp at *
 go_enter Tryz.func230,Tryz.ntmps230
 go_wp2_with fail
 refine (C.out _ (H.out.quiet HF.out)).mono ?_
 rintro e w1 ⟨rfl,rfl⟩
 go_wp2
 go_loopw [5,10] (fun a b wr => ∃ j : Nat,j ≤ c ∧ b = .int .i64 j ∧ a = .int .i64 (ssum k F G j : Nat) ∧ Box wr w.heap.size k0 F ∧ Box wr (w.heap.size + 1) k G ∧ Fr Nobody w wr) (fun _ b _ => c - (intOf b).toNat)
 case atStart => exact ⟨0,by omega,rfl,rfl,HB1.out,HB2.out,HF.out⟩
 case round =>
  obtain ⟨j,hj,rfl,rfl,hb1,hb2,hf⟩ := hrel
  have HG : Hid (Fr Nobody w wr) := hf
  have B1 : Hid (Box wr w.heap.size k0 F) := hb1
  have B2 : Hid (Box wr (w.heap.size + 1) k G) := hb2
  clear hf hb1 hb2
  by_cases hlt : j < c
  ·obtain ⟨p0,p1,p2,p3⟩ := B1.out.cells
   obtain ⟨q0,q1,q2,q3⟩ := B2.out.cells
   have hb := L.out j (by omega)
   have hw := L2.out j hlt
   have HS : Hid (ssum k F G (j + 1) = ssum k F G j + fsz k F G j) := rfl
   have SJ : Hid (∀ w,Tab w → _) := fun w h => S.out w j h hlt
   generalize fsz k F G j = z at *
   generalize ssum k F G j = s at *
   go_wp2_with fail
   refine (SJ.out _ (H.out.quiet HG.out)).mono ?_
   rintro e w2 ⟨rfl,hf2⟩
   have HG2 : Hid (Fr Nobody w w2) := HG.out.trans hf2
   have B12 : Hid (Box w2 w.heap.size k0 F) := B1.out.quiet hf2
   have B22 : Hid (Box w2 (w.heap.size + 1) k G) := B2.out.quiet hf2
   clear hf2
   go_wp2
   go_roundw
   case rel => exact ⟨j + 1,by omega,by go_num,by rw [HS.out]; go_num,B12.out,B22.out,HG2.out⟩
   case measure => simp [intOf]; omega
  ·have e : j = c := by omega
   subst e
   go_wp2
   go_ret
   exact ⟨rfl,HG.out⟩
theorem eq_a3 (d : Nat) (a b c a' b' c' : Int) (w : World) : (Op.equalIn (d + 1 + 1) 61 (.agg #[.int .i32 a,.int .i32 b,.int .i32 c]) (.agg #[.int .i32 a',.int .i32 b',.int .i32 c'])).run Tryz.prog w = .ok ((a == a') && (b == b') && (c == c')) w := by
 have hi : ∃ i,Tryz.prog.info? 21 = some i := by
  have : (Tryz.prog.info? 21).isSome = true := by kernel_rfl
  exact Option.isSome_iff_exists.1 this
 obtain ⟨i,hi⟩ := hi
 have c1 : Tryz.prog.cellsOf 21 = 1 := by kernel_rfl
 have hz : (Tryz.prog.info? 21).map (·.size) = some 1 := by kernel_rfl
 have hu := Tryz.underlying21
 rw [run_equalIn_array w (d + 1) _ _ Tryz.underlying61 hi]
 simp only [Op.eqItems,show List.range 3 = [0,1,2] from rfl,c1]
 cases ha : (a == a') <;> cases hb : (b == b') <;> cases hc : (c == c') <;> go_simp
def Wt (w : World) (k : Nat) : Prop := ∃ cur f,w.heap[k]? = some (.cells cur 210 f) ∨ w.heap[k]? = some (.cells cur 5 f)
def Wf (w w' : World) : Prop := Fr (Wt w) w w'
theorem Wf.refl (w : World) : Wf w w := Fr.refl _ _
theorem Wf.of_quiet {w w' : World} (h : Fr Nobody w w') : Wf w w' := h.mono (fun _ _ k => k.elim)
theorem Wf.trans {a b c : World} (h : Wf a b) (k : Wf b c) : Wf a c := by
 refine ⟨k.os.trans h.os,k.tape.trans h.tape,k.output.trans h.output,Nat.le_trans h.size k.size,fun i hi hs => ?_⟩
 have e := h.block i hi hs
 refine (k.block i (Nat.lt_of_lt_of_le hi h.size) ?_).trans e
 rintro ⟨cur,f,hc⟩
 rw [e] at hc
 exact hs ⟨cur,f,hc⟩
theorem Wf.quiet {a b c : World} (h : Wf a b) (k : Fr Nobody b c) : Wf a c := h.trans (Wf.of_quiet k)
theorem Box.wf {w w' : World} {b k : Nat} {F : Nat → Int} (h : Box w b k F) (hf : Wf w w') : Box w' b k F := by
 refine (hf.block b (Array.getElem?_eq_some_iff.1 h).1 ?_).trans h
 rintro ⟨cur,f,hc⟩
 unfold Box at h
 rw [h] at hc
 simp at hc
theorem Bo.wf {B : Nat} {w w' : World} {v : Value} {L : List Bool} (h : Bo B w v L) (hf : Wf w w') : Bo B w' v L := by
 refine h.keep hf ?_
 rintro k cur hk ⟨cur',f,hc⟩
 rw [hk] at hc
 simp at hc
theorem Bs.wf {w w' : World} {v : Value} {L : List Bool} (h : Bs w v L) (hf : Wf w w') : Bs w' v L := by
 refine h.keep hf ?_
 rintro k cur hk ⟨cur',f,hc⟩
 rw [hk] at hc
 simp at hc
theorem Wr.wt {B : Nat} {w : World} {b : Nat} {g : Option Nat} {L : List Bool} (h : Wr B w b g L) (k : Nat) (hk : At b g k) : Wt w k := by
 obtain ⟨v,h1,h2,h3⟩ := h.obj
 rcases hk with rfl | hk
 ·exact ⟨_,_,.inl h1⟩
 ·rcases h2.2 with ⟨rfl,_⟩ | ⟨g',cap,cur,rfl,_,hgg,_⟩
  ·simp [Value.ownBlock] at h3
   rw [← h3] at hk; cases hk
  ·simp [Value.ownBlock] at h3
   rw [← h3] at hk
   cases hk
   exact ⟨_,_,.inr hgg⟩
def fb (k : Nat) (F : Nat → Int) (j : Nat) : List Bool := bitsN (wd k j) (F j - lo k j).toNat
theorem length_fb (k : Nat) (F : Nat → Int) (j : Nat) : (fb k F j).length = wd k j := length_bitsN _ _
def cb (k : Nat) (F : Nat → Int) : Nat → List Bool
 | 0 => []
 | n + 1 => cb k F n ++ fb k F n
theorem length_cb (k : Nat) (F : Nat → Int) (n : Nat) : (cb k F n).length = bsum k n := by
 induction n with
 | zero => rfl
 | succ n ih => rw [cb,List.length_append,ih,length_fb]; rfl
theorem chk_ok (k : Nat) (F : Nat → Int) (h : chk k F = 0) : k < 6 ∧ (∀ j,j < cnt k → lo k j ≤ F j ∧ F j ≤ hi k j) ∧ ∀ j,cnt k ≤ j → j < 3 → F j = 0 := by
 unfold chk at h
 by_cases h6 : 6 ≤ k
 ·rw [if_pos h6] at h; cases h
 ·rw [if_neg h6] at h
  cases hs : stray k F with
  | true => rw [hs,if_pos rfl] at h; cases h
  | false =>
   rw [hs,if_neg (by decide)] at h
   cases ho : outside k F with
   | true => rw [ho,if_pos rfl] at h; cases h
   | false => exact ⟨by omega,fun j hj => outside_no k j F ho hj,fun j hj h3 => stray_no k j F hs hj h3⟩
theorem bits_le (k : Nat) : bitsK k ≤ 60 := by
 have := bsum_le k (cnt k) (Nat.le_refl _)
 have := cnt_le k
 unfold bitsK; omega
def sb (k : Nat) (F G : Nat → Int) (j : Nat) : List Bool := if mz F G j = 0 then bitsN 1 0 else if mz F G j ≤ 16 then bitsN 2 3 ++ bitsN 4 (mz F G j - 1) else bitsN 2 1 ++ fb k G j
theorem length_sb (k : Nat) (F G : Nat → Int) (j : Nat) : (sb k F G j).length = fsz k F G j := by
 unfold sb fsz
 split
 ·rfl
 ·split
  ·rw [List.length_append,length_bitsN,length_bitsN]
  ·rw [List.length_append,length_bitsN,length_fb]
def sbs (k : Nat) (F G : Nat → Int) : Nat → List Bool
 | 0 => []
 | n + 1 => sbs k F G n ++ sb k F G n
theorem length_sbs (k : Nat) (F G : Nat → Int) (n : Nat) : (sbs k F G n).length = ssum k F G n := by
 induction n with
 | zero => rfl
 | succ n ih => rw [sbs,List.length_append,ih,length_sb]; rfl
theorem ckS_ok (k k' : Nat) (F G : Nat → Int) (h : ckS k k' F G = 0) : chk k F = 0 ∧ chk k' G = 0 ∧ k = k' := by
 unfold ckS at h
 by_cases h1 : chk k F = 0
 ·rw [if_pos h1] at h
  by_cases h2 : chk k' G = 0
  ·rw [if_pos h2] at h
   by_cases h3 : k = k'
   ·exact ⟨h1,h2,h3⟩
   ·rw [if_neg h3] at h; cases h
  ·rw [if_neg h2] at h; exact absurd h h2
 ·rw [if_neg h1] at h; exact absurd h h1
def WrT (b : Nat) (L : List Bool) : Thing where
 is := fun w A => ∃ g,Wr 0 w b g L ∧ ∀ j,A j ↔ At b g j
 lt := by
  rintro w A j ⟨g,h,hA⟩ a
  rcases (hA j).1 a with rfl | e
  ·exact h.lt
  ·exact h.glt j e.symm
 keep := by
  rintro w w' A B ⟨g,h,hA⟩ hf hn
  exact ⟨g,h.keep hf (hn b ((hA b).2 (.inl rfl))) (fun k hk => hn k ((hA k).2 (.inr hk.symm))),hA⟩
theorem Own.wr {w0 w : World} {l : List Thing} {b : Nat} {L : List Bool} (h : Own w0 w (WrT b L :: l)) : ∃ g,Wr 0 w b g L ∧ ∀ (w' : World) (g' : Option Nat) (L' : List Bool),Wr 0 w' b g' L' → Step w b g w' g' → Own w0 w' (WrT b L' :: l) := by
 obtain ⟨A,⟨g,hw,hA⟩,hlo,act⟩ := h.act
 refine ⟨g,hw,fun w' g' L' hw' hs => act w' (WrT b L') (At b g') ⟨g',hw',fun _ => Iff.rfl⟩ (hs.fr.mono (fun k _ hk => (hA k).2 hk)) (fun k hk => ?_)⟩
 rcases hk with rfl | hk
 ·exact .inl ((hA _).2 (.inl rfl))
 ·rcases hs.row with e | ⟨j,e,hj⟩
  ·exact .inl ((hA k).2 (.inr (hk.trans e)))
  ·rw [e] at hk; cases hk; exact .inr hj
theorem new_own (w0 w : World) (l : List Thing) (h : Own w0 w l) : Calls Tryz.prog 84 #[] w fun e w' => ∃ b,e = .returned (.pointer (some ⟨b,0,none⟩)) ∧ Own w0 w' (WrT b [] :: l) := by
 refine (new_ow w w (Fr.refl _ _)).mono ?_
 rintro e w' ⟨b,rfl,hb,g,hw,hf⟩
 refine ⟨b,rfl,h.new (WrT b []) (At b g) ⟨g,hw.mono (Nat.zero_le _),fun _ => Iff.rfl⟩ hf (fun k hk => ?_)⟩
 exact hw.lowAt k hk
theorem len_own (w0 w : World) (l : List Thing) (b : Nat) (L : List Bool) (h : Own w0 w (WrT b L :: l)) : Calls Tryz.prog 180 #[.pointer (some ⟨b,0,none⟩)] w fun e w' => e = .returned (.int .i64 (L.length : Int)) ∧ Own w0 w' (WrT b L :: l) := by
 obtain ⟨g,hw,k⟩ := h.wr
 refine (len_any 0 w b g L hw).mono ?_
 rintro e w' ⟨rfl,rfl⟩
 exact ⟨rfl,h⟩
theorem putW_own (w0 w : World) (l : List Thing) (b : Nat) (L : List Bool) (v n : Nat) (x y : Int) (hx : x = (v : Int)) (hy : y = (n : Int)) (h : Own w0 w (WrT b L :: l)) (hn : n ≤ 64) (hv : v < 2 ^ n) (hv2 : v < 18446744073709551616) (hl : L.length + n ≤ 1048576) :
  Calls Tryz.prog 154 #[.pointer (some ⟨b,0,none⟩),.int .u64 x,.int .i64 y] w fun e w' => e = .returned (.int .i64 0) ∧ Own w0 w' (WrT b (L ++ bitsN n v) :: l) := by
 subst hx hy
 obtain ⟨g,hw,k⟩ := h.wr
 refine (put_ok 0 w b g L v n hw hn hv hv2 hl).mono ?_
 rintro e w' ⟨rfl,g',hw',hs⟩
 exact ⟨rfl,k w' g' _ hw' hs⟩
theorem putVarW (w0 w : World) (l : List Thing) (b : Nat) (L : List Bool) (v : Nat) (h : Own w0 w (WrT b L :: l)) (hv : v < 18446744073709551616) (hl : L.length + 5 * grp v ≤ 1048576) :
  Calls Tryz.prog 153 #[.pointer (some ⟨b,0,none⟩),.int .u64 v] w fun e w' => e = .returned (.int .i64 0) ∧ Own w0 w' (WrT b (L ++ var v) :: l) := by
 have hg := grp_bd v hv
 have H : Hid (Own w0 w (WrT b L :: l)) := h
 have HV : Hid (var v = varTo v (grp v) (grp v)) := rfl
 clear h
 have hgr := groups_any v w hv
 generalize var v = vv at *
 generalize grp v = n at *
 go_enter Tryz.func153,Tryz.ntmps153
 go_wp2_with fail
 refine hgr.mono ?_
 clear hgr
 rintro e w' ⟨rfl,rfl⟩
 go_wp2_with fail
 refine (len_own w0 _ l b L H.out).mono ?_
 rintro e w1 ⟨rfl,hW⟩
 have H1 : Hid (Own w0 w1 (WrT b L :: l)) := hW
 clear hW H
 have hlong : ¬ (1048576 : Int) - (L.length : Int) < (n : Int) * 5 := by omega
 go_wp2
 clear hlong
 go_loopw [22] (fun c wr => ∃ k : Nat,k ≤ n ∧ c = .int .i64 k ∧ Own w0 wr (WrT b (L ++ varTo v n k) :: l)) (fun c _ => n - (intOf c).toNat)
 case atStart => exact ⟨0,Nat.zero_le _,rfl,by simpa [varTo] using H1.out⟩
 case round =>
  obtain ⟨k,hk,rfl,hW⟩ := hrel
  by_cases hlt : k < n
  ·by_cases hlast : k + 1 < n
   ·have hla : (k : Int) < (n : Int) - 1 := by omega
    go_wp2_with fail
    refine (putW_own w0 wr l b _ (grpAt v n k) 5 _ 5 (by rw [grpAt,if_pos hlast]; exact more_val v k) rfl hW (by decide) (grpAt_lt v n k) (Nat.lt_trans (grpAt_lt v n k) (by decide)) (by rw [List.length_append,length_varTo]; omega)).mono ?_
    rintro e w2 ⟨rfl,hW2⟩
    have H2 : Hid (Own w0 w2 (WrT b (L ++ varTo v n (k + 1)) :: l)) := by rw [varTo,← List.append_assoc]; exact hW2
    clear hW hW2 H1
    go_wp2
    go_roundw
    case rel => exact ⟨k + 1,by omega,by go_num,H2.out⟩
    case measure => simp [intOf]; omega
   ·have hla : ¬ (k : Int) < (n : Int) - 1 := by omega
    go_wp2_with fail
    refine (putW_own w0 wr l b _ (grpAt v n k) 5 _ 5 (by rw [grpAt,if_neg hlast]; exact part_val v k) rfl hW (by decide) (grpAt_lt v n k) (Nat.lt_trans (grpAt_lt v n k) (by decide)) (by rw [List.length_append,length_varTo]; omega)).mono ?_
    rintro e w2 ⟨rfl,hW2⟩
    have H2 : Hid (Own w0 w2 (WrT b (L ++ varTo v n (k + 1)) :: l)) := by rw [varTo,← List.append_assoc]; exact hW2
    clear hW hW2 H1
    go_wp2
    go_roundw
    case rel => exact ⟨k + 1,by omega,by go_num,H2.out⟩
    case measure => simp [intOf]; omega
  ·go_wp2
   go_ret
   have e : k = n := by omega
   subst e
   exact ⟨rfl,by rw [HV.out]; exact hW⟩
theorem putInW (w0 w : World) (l : List Thing) (b : Nat) (L : List Bool) (n lo hi : Int) (d : Nat) (hd : n = lo + (d : Int)) (h : Own w0 w (WrT b L :: l)) (h0 : -9223372036854775808 ≤ lo) (h1 : hi ≤ 9223372036854775807) (ha : lo ≤ n) (hb : n ≤ hi) (hl : L.length + 64 ≤ 1048576) :
  Calls Tryz.prog 152 #[.pointer (some ⟨b,0,none⟩),.int .i64 n,.int .i64 lo,.int .i64 hi] w fun e w' => e = .returned (.int .i64 0) ∧ Own w0 w' (WrT b (L ++ bitsN (wid lo hi) d) :: l) := by
 have hle : lo ≤ hi := by omega
 have H : Hid (Own w0 w (WrT b L :: l)) := h
 have ed : (n - lo).toNat = d := by omega
 have HI : Hid (d < 2 ^ wid lo hi) := ed ▸ in_lt n lo hi h0 h1 ha hb
 have HW : Hid (wid lo hi ≤ 64) := wid_le lo hi h0 h1
 have G1 : Hid _ := fun w => span_any lo n d w h0 (by omega) hd
 have G2 : Hid _ := fun w => width_any lo hi w h0 h1 (by omega) (by omega)
 have hdl : d < 18446744073709551616 := by omega
 clear h hd ed
 generalize wid lo hi = m at *
 go_enter Tryz.func152,Tryz.ntmps152
 go_wp2_with fail
 refine (G1.out _).mono ?_
 rintro e w' ⟨rfl,rfl⟩
 go_wp2_with fail
 refine (G2.out _).mono ?_
 rintro e w' ⟨rfl,rfl⟩
 go_wp2_with fail
 refine (putW_own w0 _ l b L d m _ _ rfl rfl H.out HW.out HI.out hdl (by have := HW.out; omega)).mono ?_
 rintro e w1 ⟨rfl,hW⟩
 go_wp2
 go_ret
 exact ⟨rfl,hW⟩
theorem bytesW (w0 w : World) (l : List Thing) (b : Nat) (L : List Bool) (h : Own w0 w (WrT b L :: l)) (hl : L.length ≤ 1048576) :
  Calls Tryz.prog 88 #[.pointer (some ⟨b,0,none⟩)] w fun e w' => ∃ v',e = .returned v' ∧ Own w0 w' (Row 5 1 v' (nb L.length) (vrow (pack L)) :: WrT b L :: l) := by
 obtain ⟨g,hw,k⟩ := h.wr
 refine (bytes_any 0 w b g L hw hl).mono ?_
 rintro e w' ⟨v',rfl,hr,hf,hk⟩
 exact ⟨v',rfl,h.new (Row 5 1 v' (nb L.length) (vrow (pack L))) (fun k => v'.ownBlock = some k) ⟨hr,fun _ => Iff.rfl⟩ hf hk⟩
end Go.Proofs.YtgifeckbflkkpaaGreatDoor
