/- The document's side of layer 2: Width and In; appending one list of bits to another. -/
import Derived.Test.YtgifeckbflkkpaaGreatDoorQr04
import Derived.Test.YtgifeckbflkkpaaGreatDoorQr03
namespace Go.Proofs.YtgifeckbflkkpaaGreatDoor
open Go.RowKit
set_option linter.unusedVariables false
set_option maxHeartbeats 1000000
set_option maxRecDepth 100000
theorem bitLen0 : Lib.bitLen 0 = 0 := by decide +kernel
theorem rwidth_any (lo hi : Int) (w : World) (h0 : -9223372036854775808 ≤ lo) (h1 : hi ≤ 9223372036854775807) (h2 : lo ≤ 9223372036854775807) (h3 : -9223372036854775808 ≤ hi) :
  Calls Tryz.prog 136 #[.int .i64 lo,.int .i64 hi] w fun e w' => e = .returned (.int .i64 (wid lo hi : Nat)) ∧ w' = w := by
 by_cases h : hi < lo
 ·have e0 : wid lo hi = 0 := by unfold wid; rw [if_pos h]
  rw [e0]
  go_enter Tryz.func136,Tryz.ntmps136
  go_wp2
  go_ret
  exact ⟨rfl,rfl⟩
 ·have e0 : wid lo hi = Lib.bitLen (hi - lo).toNat := by unfold wid; rw [if_neg h]
  obtain ⟨d,hd⟩ : ∃ d : Nat,d = (hi - lo).toNat := ⟨_,rfl⟩
  rw [e0,← hd]
  have hd2 : d < 18446744073709551616 := by omega
  have hq : IntKind.u64.wrap (IntKind.u64.wrap hi - IntKind.u64.wrap lo) = (d : Int) := by simp only [wrapU]; omega
  have hb := bitLen_64 d hd2
  clear e0 hd
  generalize hl : Lib.bitLen d = l at *
  have HL : Hid (Lib.bitLen d = l) := hl
  clear hl
  go_enter Tryz.func136,Tryz.ntmps136
  go_wp2
  clear hq
  go_loopw [5,6] (fun c xv wr => ∃ k y : Nat,c = .int .i64 k ∧ xv = .int .u64 y ∧ k + Lib.bitLen y = l ∧ y < 18446744073709551616 ∧ wr = w) (fun _ xv _ => (intOf xv).toNat)
  case atStart => exact ⟨0,d,rfl,rfl,by rw [HL.out]; omega,hd2,rfl⟩
  case round =>
   obtain ⟨k,y,rfl,rfl,hy,hy2,rfl⟩ := hrel
   have HY : Hid (k + Lib.bitLen y = l) := hy
   have hkl : k ≤ l := by omega
   clear hy
   by_cases hpos : 0 < y
   ·have HY2 : Hid (k + 1 + Lib.bitLen (y / 2) = l) := by
     have := Lib.bitLen_half y (by omega) hy2
     have := HY.out
     show _ = _; omega
    go_wp2
    go_roundw
    case rel => exact ⟨k + 1,y / 2,by go_num,by go_num,HY2.out,by omega,trivial⟩
    case measure => simp [intOf]; omega
   ·have hy0 : y = 0 := by omega
    subst hy0
    have hkl2 : k = l := by have := HY.out; rw [bitLen0] at this; omega
    go_wp2
    go_ret
    exact ⟨ret_int (by omega),rfl⟩
theorem rin_ok (n lo hi : Int) (d : Nat) (w : World) (hd : n = lo + (d : Int)) (h0 : -9223372036854775808 ≤ lo) (h1 : hi ≤ 9223372036854775807) (ha : lo ≤ n) (hb : n ≤ hi) :
  Calls Tryz.prog 123 #[.int .i64 n,.int .i64 lo,.int .i64 hi] w fun e w' => ∃ v,e = .returned (.tuple #[v,.int .i64 0]) ∧ Bo w.heap.size w' v (bitsN (wid lo hi) d) ∧ Fr Nobody w w' := by
 have hle : lo ≤ hi := by omega
 have ed : (n - lo).toNat = d := by omega
 have hq : IntKind.u64.wrap (IntKind.u64.wrap n - IntKind.u64.wrap lo) = (d : Int) := by simp only [wrapU]; omega
 have HI : d < 2 ^ wid lo hi := ed ▸ in_lt n lo hi h0 h1 ha hb
 have HW : wid lo hi ≤ 64 := wid_le lo hi h0 h1
 have hdl : d < 18446744073709551616 := by omega
 have e1 : d / 2 ^ wid lo hi = 0 := Nat.div_eq_of_lt HI
 have e2 : rputE [] d (wid lo hi) = 0 := by unfold rputE; rw [if_pos e1,if_pos (by simp; omega)]
 have e3 : rputL [] d (wid lo hi) = bitsN (wid lo hi) d := by unfold rputL; rw [if_pos ⟨e1,by simp; omega⟩]; rfl
 have G : Hid _ := fun w => rput_own w.heap.size w (.slice none 0 0) [] d (wid lo hi) (Bo.nil _ _) (Nat.le_refl _) (by decide) hdl HW
 have G2 : Hid _ := fun w => rwidth_any lo hi w h0 h1 (by omega) (by omega)
 rw [e2,e3] at G
 generalize wid lo hi = m at *
 clear ed HI HW e1 e2 e3 hd
 go_enter Tryz.func123,Tryz.ntmps123
 go_wp2_with fail
 refine (G2.out _).mono ?_
 rintro e w' ⟨rfl,rfl⟩
 go_wp2_with fail
 refine (G.out _).mono ?_
 rintro e w1 ⟨v,rfl,hO,hf⟩
 go_wp2
 go_ret2
 exact ⟨v,rfl,hO,hf⟩
theorem append_bits {w : World} {ops : Array Oper} {rest : List Oper} {o : Oper} {a : Act} {Q : Exit → Act → World → Prop} (hgd : o.guard = none) (s x : Operand)
  (ho : o.op = .call { callee := .builtin .append,args := #[s,x],argTypes := #[75,75] }) (B : Nat) (v u : Value) (L M : List Bool) (h : Bo B w v L) (hM : Bs w u M) (hL : L.length ≤ 100000000) (hM2 : M.length ≤ 100000000) (hB : B ≤ w.heap.size)
  (hs : a.eval s = v) (hx : a.eval x = u)
  (hK : ∀ v' w',Bo B w' v' (L ++ M) → w.grownBy w' v.ownBlock → wpList Tryz.prog ops Q rest (a.put o.dst v') w') :
  wpList Tryz.prog ops Q (o :: rest) a w := by
 obtain ⟨i0,hi,hz0,hz1,hz2⟩ := info_parts Tryz.infoBool
 rcases hM with ⟨rfl,rfl⟩ | ⟨g,off,cap,cur,rfl,hn,hg,hc⟩
 ·refine wpList_plain hgd fun K hK' => ?_
  have hr := run_append_owned_none (P := Tryz.prog) w B 75 o.type 4 i0 1 Tryz.underlying75 hi v L.length (brow L) h
  unfold Oper.wp
  simp [execOp,ho,resolve,invoke,builtin,hs,hx,hr,Result.andThen]
  exact hK' _ _ (hK v w (by simpa using h) ⟨rfl,rfl,rfl,Nat.le_refl _,fun _ _ _ => rfl⟩)
 ·refine wpList_append_own w hgd s x 75 ho B 4 i0 (.bool false) 1 1 Tryz.underlying75 hi hz0 hz1 hz2 rfl (by decide) v L.length (brow L) hs h ⟨g,off,none⟩ M.length cap (brow M) hx (by rw [length_brow]; omega) ?_ (one_brow M) (by unfold maxLen; omega) (by omega) hB ?_
  ·intro j u hu
   rw [addr_add,cell_of_row w g _ cur 4 (0,0) hg]
   exact hc j u hu
  ·intro v' w' ho' hg' _
   refine hK v' w' ?_ hg'
   unfold Bo
   rw [brow_append,List.length_append]
   exact ho'
theorem Ow.grown {w0 w w' : World} {b : Nat} {M L : List Bool} {v : Value} (h : Ow w0 w b M) (hv : Bo w0.heap.size w v L) (hg : w.grownBy w' v.ownBlock) : Ow w0 w' b M := by
 obtain ⟨g,hW,hF⟩ := h
 have hfr : Fr (fun k => v.ownBlock = some k) w w' := Fr.grown (S := fun k => v.ownBlock = some k) (Fr.refl _ w) hg (fun k hk => .inl hk)
 have hap : ∀ k,At b g k → ¬ v.ownBlock = some k := by
  intro k hk e
  rcases hv.2 with ⟨rfl,_⟩ | ⟨g',cap,cur,rfl,_,hgg,_⟩
  ·simp [Value.ownBlock] at e
  ·simp [Value.ownBlock] at e
   subst e
   exact hW.apart _ cur hgg hk
 refine ⟨g,hW.keep hfr (hap b (.inl rfl)) (fun k hk => hap k (.inr hk.symm)),hF.fresh hfr (fun k hk => (World.ownsRow.lt hv k hk).1)⟩
def g5 (M : List Bool) : Nat := num (M.take 5)
def gvAux : Nat → Nat → Nat → List Bool → Int × Nat × Nat
 | 0,_,_,_ => (4,0,0)
 | n + 1,i,v,M =>
  if M.length < 5 then (2,0,0)
  else if 16 ≤ g5 M then gvAux n (i + 1) (v + g5 M % 16 * 2 ^ (4 * i)) (M.drop 5)
  else if grp (v + g5 M % 16 * 2 ^ (4 * i)) ≠ i + 1 then (4,0,0)
  else (0,v + g5 M % 16 * 2 ^ (4 * i),5 * (i + 1))
def gv (M : List Bool) : Int × Nat × Nat := gvAux 16 0 0 M
theorem vstep_lt (v g i : Nat) (hv : v < 2 ^ (4 * i)) : v + g % 16 * 2 ^ (4 * i) < 2 ^ (4 * (i + 1)) := by
 have h : g % 16 < 16 := Nat.mod_lt _ (by decide)
 have e : 2 ^ (4 * (i + 1)) = 16 * 2 ^ (4 * i) := by rw [show 4 * (i + 1) = 4 * i + 4 from by omega,Nat.pow_add]; omega
 rw [e]
 have h2 : g % 16 * 2 ^ (4 * i) ≤ 15 * 2 ^ (4 * i) := Nat.mul_le_mul_right _ (by omega)
 omega
theorem lt_bitLen' (x : Nat) (h : x < 18446744073709551616) : x < 2 ^ Lib.bitLen x := by
 induction x using Nat.strongRecOn with
 | ind x ih =>
  by_cases h0 : x = 0
  ·subst h0; exact Nat.two_pow_pos _
  ·rw [Lib.bitLen_half x h0 h,Nat.add_comm,Nat.pow_succ]
   have := ih (x / 2) (by omega) (by omega)
   omega
theorem lt_grp (v : Nat) (h : v < 18446744073709551616) : v < 2 ^ (4 * grp v) := by
 have h1 := lt_bitLen' v h
 have h2 : 2 ^ Lib.bitLen v ≤ 2 ^ (4 * grp v) := Nat.pow_le_pow_right (by decide) (by unfold grp; omega)
 omega
def varFrom (v n : Nat) : Nat → Nat → List Bool
 | _,0 => []
 | k,m + 1 => bitsN 5 (grpAt v n k) ++ varFrom v n (k + 1) m
theorem varTo_from (v n k m : Nat) : varTo v n k ++ varFrom v n k m = varTo v n (k + m) := by
 induction m generalizing k with
 | zero => simp [varFrom]
 | succ m ih =>
  rw [varFrom,← List.append_assoc,← varTo,ih (k + 1)]
  congr 1; omega
theorem var_from (v : Nat) : var v = varFrom v (grp v) 0 (grp v) := by
 have h := varTo_from v (grp v) 0 (grp v)
 rw [Nat.zero_add] at h
 exact h.symm
theorem g5_group (x : Nat) (hx : x < 32) (R : List Bool) : g5 (bitsN 5 x ++ R) = x ∧ (bitsN 5 x ++ R).drop 5 = R ∧ ¬ (bitsN 5 x ++ R).length < 5 := by
 refine ⟨?_,?_,?_⟩
 ·unfold g5; rw [List.take_left' (length_bitsN 5 x),num_bitsN]; exact Nat.mod_eq_of_lt hx
 ·rw [List.drop_left' (length_bitsN 5 x)]
 ·rw [List.length_append,length_bitsN]; omega
theorem mod_step (v k : Nat) : v % 2 ^ (4 * k) + v / 2 ^ (4 * k) % 16 * 2 ^ (4 * k) = v % 2 ^ (4 * (k + 1)) := by
 rw [show 4 * (k + 1) = 4 * k + 4 from by omega,Nat.pow_add,Nat.mod_mul,Nat.mul_comm (2 ^ (4 * k)) (v / 2 ^ (4 * k) % 2 ^ 4)]
theorem gvAux_var (v : Nat) (hv : v < 18446744073709551616) (R : List Bool) (m k : Nat) (hk : k + (m + 1) = grp v) : gvAux (16 - k) k (v % 2 ^ (4 * k)) (varFrom v (grp v) k (m + 1) ++ R) = (0,v,5 * grp v) := by
 have hb := grp_bd v hv
 induction m generalizing k with
 | zero =>
  rw [varFrom,varFrom,List.append_nil,show 16 - k = (15 - k) + 1 from by omega,gvAux]
  obtain ⟨a,b,c⟩ := g5_group (grpAt v (grp v) k) (grpAt_lt _ _ _) R
  rw [if_neg c,a]
  have e : grpAt v (grp v) k = v / 2 ^ (4 * k) % 16 := by unfold grpAt; rw [if_neg (by omega)]; rfl
  rw [e,if_neg (by have := Nat.mod_lt (v / 2 ^ (4 * k)) (show 0 < 16 by decide); omega),Nat.mod_mod,mod_step]
  have ek : k + 1 = grp v := by omega
  rw [ek,Nat.mod_eq_of_lt (lt_grp v hv),if_neg (by simp)]
 | succ m ih =>
  rw [varFrom,List.append_assoc,show 16 - k = (15 - k) + 1 from by omega,gvAux]
  obtain ⟨a,b,c⟩ := g5_group (grpAt v (grp v) k) (grpAt_lt _ _ _) (varFrom v (grp v) (k + 1) (m + 1) ++ R)
  rw [if_neg c,a,b]
  have e : grpAt v (grp v) k = v / 2 ^ (4 * k) % 16 + 16 := by unfold grpAt; rw [if_pos (by omega)]
  have e2 : (v / 2 ^ (4 * k) % 16 + 16) % 16 = v / 2 ^ (4 * k) % 16 := by omega
  rw [e,if_pos (by omega),e2,mod_step,show 15 - k = 16 - (k + 1) from by omega]
  exact ih (k + 1) (by omega)
theorem gv_var (v : Nat) (hv : v < 18446744073709551616) (R : List Bool) : gv (var v ++ R) = (0,v,5 * grp v) := by
 have hb := grp_bd v hv
 obtain ⟨m,hm⟩ : ∃ m,grp v = m + 1 := ⟨grp v - 1,by omega⟩
 have h := gvAux_var v hv R m 0 (by omega)
 rw [Nat.mul_zero,Nat.pow_zero,Nat.mod_one,Nat.sub_zero] at h
 unfold gv
 rw [var_from,hm]
 rw [hm] at h
 exact h
theorem bitLen_ge (x : Nat) (h0 : x ≠ 0) (h : x < 18446744073709551616) : 2 ^ (Lib.bitLen x - 1) ≤ x := by
 induction x using Nat.strongRecOn with
 | ind x ih =>
  rw [Lib.bitLen_half x h0 h]
  by_cases h1 : x / 2 = 0
  ·rw [h1,bitLen0]; simp; omega
  ·have h2 := ih (x / 2) (by omega) h1 (by omega)
   have h3 : Lib.bitLen (x / 2) ≠ 0 := by
    intro e
    have h4 := lt_bitLen' (x / 2) (by omega)
    rw [e] at h4; omega
   obtain ⟨m,hm⟩ : ∃ m,Lib.bitLen (x / 2) = m + 1 := ⟨Lib.bitLen (x / 2) - 1,by omega⟩
   rw [hm] at h2 ⊢
   rw [show 1 + (m + 1) - 1 = m + 1 from by omega,Nat.pow_succ]
   rw [show m + 1 - 1 = m from by omega] at h2
   omega
theorem grp_more (v i : Nat) (hv : v < 18446744073709551616) : i + 1 < grp v ↔ v / 2 ^ (4 * (i + 1)) ≠ 0 := by
 constructor
 ·intro h
  have hb : 4 * (i + 1) < Lib.bitLen v := by unfold grp at h; omega
  have h0 : v ≠ 0 := by rintro rfl; rw [bitLen0] at hb; omega
  have h1 := bitLen_ge v h0 hv
  have h2 : 2 ^ (4 * (i + 1)) ≤ 2 ^ (Lib.bitLen v - 1) := Nat.pow_le_pow_right (by decide) (by omega)
  intro e
  rw [Nat.div_eq_zero_iff_lt (Nat.two_pow_pos _)] at e
  omega
 ·intro h
  rcases Nat.lt_or_ge (i + 1) (grp v) with c | c
  ·exact c
  ·exfalso
   have h1 := lt_grp v hv
   have h2 : 2 ^ (4 * grp v) ≤ 2 ^ (4 * (i + 1)) := Nat.pow_le_pow_right (by decide) (by omega)
   exact h (Nat.div_eq_of_lt (by omega))
theorem bits_group (v n i : Nat) (b : Bool) (hb : b = decide (i + 1 < n)) : bitsN 5 (grpAt v n i) = bitsN 4 (v / 2 ^ (4 * i)) ++ [b] := by
 subst hb
 unfold grpAt
 generalize v / 2 ^ (4 * i) = y
 by_cases c : i + 1 < n
 ·rw [if_pos c]
  have e0 : (y % 16 + 16) % 2 = y % 2 := by omega
  have e1 : (y % 16 + 16) / 2 % 2 = y / 2 % 2 := by omega
  have e2 : (y % 16 + 16) / 2 / 2 % 2 = y / 2 / 2 % 2 := by omega
  have e3 : (y % 16 + 16) / 2 / 2 / 2 % 2 = y / 2 / 2 / 2 % 2 := by omega
  have e4 : (y % 16 + 16) / 2 / 2 / 2 / 2 % 2 = 1 := by omega
  simp only [bitsN,e0,e1,e2,e3,e4,c]
  simp
 ·rw [if_neg c]
  have e0 : (y % 16 + 0) % 2 = y % 2 := by omega
  have e1 : (y % 16 + 0) / 2 % 2 = y / 2 % 2 := by omega
  have e2 : (y % 16 + 0) / 2 / 2 % 2 = y / 2 / 2 % 2 := by omega
  have e3 : (y % 16 + 0) / 2 / 2 / 2 % 2 = y / 2 / 2 / 2 % 2 := by omega
  have e4 : (y % 16 + 0) / 2 / 2 / 2 / 2 % 2 = 0 := by omega
  simp only [bitsN,e0,e1,e2,e3,e4,c]
  simp
theorem div16 (v i : Nat) : v / 2 ^ (4 * i) / 2 ^ 4 = v / 2 ^ (4 * (i + 1)) := by
 rw [Nat.div_div_eq_div_mul,← Nat.pow_add]; congr 1
theorem rvar_any (w : World) (v : Nat) (hv : v < 18446744073709551616) : Calls Tryz.prog 76 #[.int .u64 (v : Int)] w fun e w' => ∃ u,e = .returned u ∧ Bo w.heap.size w' u (var v) ∧ Fr Nobody w w' := by
 obtain ⟨i0,hi,hz0,hz1,hz2⟩ := info_parts Tryz.infoBool
 have hg := grp_bd v hv
 have HM : Hid (∀ i,i + 1 < grp v ↔ v / 2 ^ (4 * (i + 1)) ≠ 0) := fun i => grp_more v i hv
 have HV : Hid (var v = varTo v (grp v) (grp v)) := rfl
 generalize var v = vv at *
 generalize grp v = n at *
 go_enter Tryz.func76,Tryz.ntmps76
 go_wp2
 go_loopw [0,3] (fun xv u wr => ∃ i y : Nat,i < n ∧ y = v / 2 ^ (4 * i) ∧ y < 18446744073709551616 ∧ xv = .int .u64 (y : Int) ∧ Bo w.heap.size wr u (varTo v n i) ∧ Fr Nobody w wr) (fun xv _ _ => (intOf xv).toNat)
 case atStart => exact ⟨0,v,by omega,by simp,hv,rfl,Bo.nil _ _,Fr.refl _ _⟩
 case round =>
  obtain ⟨i,y,hin,hy,hyl,rfl,hB,hf⟩ := hrel
  have H1 : Hid (Bo w.heap.size wr _ (varTo v n i) ∧ Fr Nobody w wr) := ⟨hB,hf⟩
  have HY : Hid (y = v / 2 ^ (4 * i)) := hy
  have HL : Hid ((varTo v n i).length = 5 * i) := length_varTo v n i
  clear hB hf hy
  go_wp2
  go_loopw [0,3,4] (fun xv u c wr2 => ∃ j z : Nat,j ≤ 4 ∧ c = .int .i64 j ∧ z = y / 2 ^ j ∧ xv = .int .u64 (z : Int) ∧ Bo w.heap.size wr2 u (varTo v n i ++ bitsN j y) ∧ Fr Nobody w wr2) (fun _ _ c _ => 4 - (intOf c).toNat)
  case atStart => exact ⟨0,y,by decide,rfl,by simp,rfl,by simpa [bitsN] using H1.out.1,H1.out.2⟩
  case round =>
   obtain ⟨j,z,hj,rfl,hz,rfl,hB,hf⟩ := hrel
   have HZ : Hid (z = y / 2 ^ j) := hz
   have hz2 : z < 18446744073709551616 := by rw [hz]; exact Nat.lt_of_le_of_lt (Nat.div_le_self _ _) hyl
   have hsz := hf.size
   clear hz
   by_cases hj4 : j < 4
   ·obtain ⟨bb,hbb⟩ : ∃ bb : Bool,(((z : Int) % 2 == 1) : Bool) = bb := ⟨_,rfl⟩
    have HB : Hid ((y / 2 ^ j % 2 == 1) = bb) := by
     show _ = _
     rw [← hbb,← HZ.out,Bool.eq_iff_iff]; simp; omega
    have hln : (varTo v n i ++ bitsN j y).length ≤ 100000 := by rw [List.length_append,length_bitsN,HL.out]; omega
    go_wp2_with (at_builtin; refine wpList_append_own _ rfl _ _ 75 rfl w.heap.size 4 i0 (.bool false) 1 1 Tryz.underlying75 hi hz0 hz1 ‹_› rfl (by decide) _ _ _ rfl (World.ownsRow.alloc hB _) ⟨_,0,none⟩ 1 1 [.bool bb] rfl rfl (cell_one_new _ _ _) (one_bool _) (by unfold maxLen; omega) (by omega) (by simp; omega) ?_)
    intro u' w2 ho2 hg2 _
    have H2 : Hid (Bo w.heap.size w2 u' (varTo v n i ++ bitsN (j + 1) y) ∧ Fr Nobody w w2) := by
     refine ⟨?_,(hf.alloc _).grown hg2 (fun q hq => .inr (World.ownsRow.lt hB q hq).1)⟩
     unfold Bo
     rw [bitsN_snoc,HB.out,← List.append_assoc,brow_append (varTo v n i ++ bitsN j y),show (varTo v n i ++ bitsN j y ++ [bb]).length = (varTo v n i).length + (bitsN j y).length + 1 from by rw [List.length_append,List.length_append]; rfl]
     exact ho2
    have HY2 : Hid (z / 2 = y / 2 ^ (j + 1)) := by show _ = _; rw [HZ.out,half_pow]
    clear hB hf ho2 hg2 HB HZ hbb hln
    go_wp2
    go_roundw
    case rel => exact ⟨j + 1,z / 2,by omega,by go_num,HY2.out,by go_num,H2.out.1,H2.out.2⟩
    case measure => simp [intOf]; omega
   ·have ej : j = 4 := by omega
    subst ej
    have HZ2 : Hid (z = v / 2 ^ (4 * (i + 1))) := by show _ = _; rw [HZ.out,HY.out,div16]
    have hln : (varTo v n i ++ bitsN 4 y).length ≤ 100000 := by rw [List.length_append,length_bitsN,HL.out]; omega
    have hm : z < y ∨ y = 0 := by have := HZ.out; omega
    have HZX : Hid (z ≤ y) := by have := HZ.out; show _ ≤ _; omega
    obtain ⟨bb,hbb⟩ : ∃ bb : Bool,decide (0 < z) = bb := ⟨_,rfl⟩
    have HG : Hid (varTo v n (i + 1) = varTo v n i ++ bitsN 4 y ++ [bb]) := by
     show _ = _
     rw [varTo,bits_group v n i bb,← HY.out,List.append_assoc]
     rw [← hbb]
     have := HM.out i
     rw [← HZ2.out] at this
     rw [decide_eq_decide,this]; omega
    have hd : decide ((4 : Int) < 4) = false := by decide
    go_wp2_with (at_builtin; refine wpList_append_own _ rfl _ _ 75 rfl w.heap.size 4 i0 (.bool false) 1 1 Tryz.underlying75 hi hz0 hz1 ‹_› rfl (by decide) _ _ _ rfl (World.ownsRow.alloc hB _) ⟨_,0,none⟩ 1 1 [.bool bb] rfl rfl (cell_one_new _ _ _) (one_bool _) (by unfold maxLen; omega) (by omega) (by simp; omega) ?_)
    intro u' w2 ho2 hg2 _
    have H2 : Hid (Bo w.heap.size w2 u' (varTo v n (i + 1)) ∧ Fr Nobody w w2) := by
     refine ⟨?_,(hf.alloc _).grown hg2 (fun q hq => .inr (World.ownsRow.lt hB q hq).1)⟩
     rw [HG.out]
     unfold Bo
     rw [brow_append (varTo v n i ++ bitsN 4 y),show (varTo v n i ++ bitsN 4 y ++ [bb]).length = (varTo v n i).length + (bitsN 4 y).length + 1 from by rw [List.length_append,List.length_append]; rfl]
     exact ho2
    have HI : Hid (i + 1 < n ↔ z ≠ 0) := by have := HM.out i; rw [← HZ2.out] at this; exact this
    clear hB hf ho2 hg2 HG HZ hbb hln HY
    by_cases z0 : z = 0
    ·have H3 : Hid (Bo w.heap.size w2 u' vv ∧ Fr Nobody w w2) := by
      have e : i + 1 = n := by have := HI.out; omega
      have h2 := H2.out
      rw [e] at h2
      exact ⟨by rw [HV.out]; exact h2.1,h2.2⟩
     clear HI HM H2 HZ2 hm HZX
     subst z0
     go_wp2
     go_ret
     exact ⟨_,rfl,H3.out.1,H3.out.2⟩
    ·have hi1 : i + 1 < n := HI.out.2 z0
     have tz : ((z : Int) == 0) = false := by simp; omega
     have HX : Hid (z < y) := by rcases hm with h | h; exact h; exact absurd (by have := HZX.out; omega) z0
     clear HI HM hm HZX
     go_wp2
     go_roundw
     case rel => exact ⟨i + 1,z,hi1,HZ2.out,hz2,rfl,H2.out.1,H2.out.2⟩
     case measure => have := HX.out; simp [intOf]; omega
theorem rzig_any (n : Int) (w : World) (h0 : -9223372036854775808 ≤ n) (h1 : n ≤ 9223372036854775807) :
  Calls Tryz.prog 111 #[.int .i64 n] w fun e w' => e = .returned (.int .u64 (zig n : Nat)) ∧ w' = w := by
 by_cases h : n < 0
 ·have e : zig n = (-2 * n - 1).toNat := by unfold zig; rw [if_pos h]
  rw [e]
  clear e
  go_enter Tryz.func111,Tryz.ntmps111
  go_wp2
  go_ret
  exact ⟨ret_int (by omega),rfl⟩
 ·have e : zig n = (2 * n).toNat := by unfold zig; rw [if_neg h]
  have h' : 0 ≤ n := by omega
  rw [e]
  clear e
  go_enter Tryz.func111,Tryz.ntmps111
  go_wp2
  go_ret
  exact ⟨ret_int (by omega),rfl⟩
theorem rzag_any (v : Nat) (w : World) (hv : v < 18446744073709551616) :
  Calls Tryz.prog 110 #[.int .u64 v] w fun e w' => e = .returned (.int .i64 (zag v)) ∧ w' = w := by
 by_cases h : v % 2 = 0
 ·have e : zag v = (v : Int) / 2 := by unfold zag; rw [if_pos h]
  have hm : ((v : Int) % 2 == 1) = false := by simp; omega
  rw [e]
  clear e h
  go_enter Tryz.func110,Tryz.ntmps110
  go_wp2
  go_ret
  exact ⟨ret_int (by omega),rfl⟩
 ·have e : zag v = -1 - (v : Int) / 2 := by unfold zag; rw [if_neg h]
  have hm : ((v : Int) % 2 == 1) = true := by simp; omega
  rw [e]
  clear e h
  go_enter Tryz.func110,Tryz.ntmps110
  go_wp2
  go_ret
  exact ⟨ret_int (by omega),rfl⟩
theorem num_zeros (n : Nat) : num (List.replicate n false) = 0 := by
 induction n with
 | zero => rfl
 | succ n ih => rw [List.replicate_succ,num,ih]; rfl
def Pair (w0 w : World) (b : Nat) (L : List Bool) (u : Value) (M : List Bool) : Prop := Ow w0 w b L ∧ Bo w0.heap.size w u M
theorem Pair.quiet {w0 w w' : World} {b : Nat} {L : List Bool} {u : Value} {M : List Bool} (h : Pair w0 w b L u M) (hf : Fr Nobody w w') : Pair w0 w' b L u M := ⟨h.1.quiet hf,h.2.quiet hf⟩
def BytesAt (w : World) (ao : Option Addr) (P : List Nat) : Prop :=
 P = [] ∨ ∃ g o,ao = some ⟨g,o,none⟩ ∧ ∀ (j x : Nat),P[j]? = some x → w.cell? ⟨g,o + j,none⟩ = some (.int .u8 (x : Int))
theorem BytesAt.quiet {w w' : World} {ao : Option Addr} {P : List Nat} (h : BytesAt w ao P) (hf : Fr Nobody w w') : BytesAt w' ao P := by
 rcases h with h | ⟨g,o,ha,hc⟩
 ·exact .inl h
 ·refine .inr ⟨g,o,ha,fun j x hx => ?_⟩
  have h1 := hc j x hx
  exact (hf.cell (p := ⟨g,o + j,none⟩) (World.block_lt_of_cell? w _ h1) id).trans h1
theorem BytesAt.src {w : World} {ao : Option Addr} {P : List Nat} (h : BytesAt w ao P) (cap : Nat) (hn : ao = none → cap = 0) : Src w (.slice ao P.length cap) P.length (vrow P) := by
 cases ao with
 | none =>
  left
  rcases h with h | ⟨g,o,ha,_⟩
  ·subst h; rw [hn rfl]; exact ⟨rfl,rfl,rfl⟩
  ·cases ha
 | some a =>
  right
  refine ⟨a,cap,rfl,length_vrow P,fun j u hu => ?_⟩
  rcases h with h | ⟨g,o,ha,hc⟩
  ·subst h; simp [vrow] at hu
  ·cases ha
   rw [getElem?_vrow] at hu
   cases hx : P[j]? with
   | none => rw [hx] at hu; cases hu
   | some x =>
    rw [hx] at hu
    simp only [Option.map_some,Option.some.injEq] at hu
    subst hu
    rw [addr_add]
    exact hc j x hx
theorem bitsB_snoc (P : List Nat) (k x : Nat) (h : P[k]? = some x) : bitsB (P.take (k + 1)) = bitsB (P.take k) ++ bitsN 8 x := by
 rw [List.take_add_one,h]; simp [bitsB]
theorem length_bitsB_take (P : List Nat) (k : Nat) (h : k ≤ P.length) : (bitsB (P.take k)).length = 8 * k := by rw [length_bitsB,List.length_take]; omega
theorem rbits_any (w : World) (ao : Option Addr) (cap len : Nat) (P : List Nat) (h : BytesAt w ao P) (hlen : P.length = len) (hb : ∀ x ∈ P,x < 256) (hL : len ≤ 10000) :
  Calls Tryz.prog 42 #[.slice ao len cap] w fun e w' => ∃ v',e = .returned v' ∧ Bo w.heap.size w' v' (bitsB P) ∧ Fr Nobody w w' := by
 obtain ⟨i0,hi,hz0,hz1,hz2⟩ := info_parts Tryz.infoBool
 have HP : Hid (BytesAt w ao P ∧ P.length = len ∧ ∀ x ∈ P,x < 256) := ⟨h,hlen,hb⟩
 clear h hlen hb
 go_enter Tryz.func42,Tryz.ntmps42
 go_wp2
 go_loopw [3,8] (fun u c wr => ∃ k : Nat,k ≤ len ∧ c = .int .i64 k ∧ Bo w.heap.size wr u (bitsB (P.take k)) ∧ Fr Nobody w wr) (fun _ c _ => len - (intOf c).toNat)
 case atStart => exact ⟨0,Nat.zero_le _,rfl,Bo.nil _ _,Fr.refl _ _⟩
 case round =>
  obtain ⟨k,hk,rfl,hB,hf⟩ := hrel
  have H1 : Hid (Bo w.heap.size wr _ (bitsB (P.take k)) ∧ Fr Nobody w wr) := ⟨hB,hf⟩
  clear hB hf
  by_cases hlt : k < len
  ·obtain ⟨x,hx⟩ : ∃ x,P[k]? = some x := ⟨_,List.getElem?_eq_getElem (by rw [HP.out.2.1]; exact hlt)⟩
   have hx2 := HP.out.2.2 x (List.mem_of_getElem? hx)
   obtain ⟨g,o,hao,cx⟩ : ∃ g o,ao = some ⟨g,o,none⟩ ∧ wr.cell? ⟨g,o + k,none⟩ = some (.int .u8 (x : Int)) := by
    rcases HP.out.1.quiet H1.out.2 with h | ⟨g,o,ha,hc⟩
    ·subst h; simp at hx
    ·exact ⟨g,o,ha,hc k _ hx⟩
   subst hao
   have HS : Hid (bitsB (P.take (k + 1)) = bitsB (P.take k) ++ bitsN 8 x) := bitsB_snoc P k x hx
   have HL : Hid ((bitsB (P.take k)).length = 8 * k) := length_bitsB_take P k (by rw [HP.out.2.1]; exact hk)
   clear hx
   have hd : decide ((k : Int) < (len : Int)) = true := by simp; omega
   go_wp2
   clear hd cx
   go_loopw [3,5,12] (fun u xv c wr2 => ∃ j y : Nat,j ≤ 8 ∧ c = .int .i64 j ∧ y = x / 2 ^ j ∧ xv = .int .u8 (y : Int) ∧ Bo w.heap.size wr2 u (bitsB (P.take k) ++ bitsN j x) ∧ Fr Nobody w wr2) (fun _ _ c _ => 8 - (intOf c).toNat)
   case atStart => exact ⟨0,x,by decide,rfl,by simp,rfl,by simpa [bitsN] using H1.out.1,H1.out.2⟩
   case round =>
    obtain ⟨j,y,hj,rfl,hy,rfl,hB,hf⟩ := hrel
    have HY : Hid (y = x / 2 ^ j) := hy
    have hy2 : y < 256 := by rw [hy]; exact Nat.lt_of_le_of_lt (Nat.div_le_self _ _) hx2
    clear hy
    by_cases hj8 : j < 8
    ·obtain ⟨bb,hbb⟩ : ∃ bb : Bool,(((y : Int) % 2 == 1) : Bool) = bb := ⟨_,rfl⟩
     have HB : Hid ((x / 2 ^ j % 2 == 1) = bb) := by
      show _ = _
      rw [← hbb,← HY.out,Bool.eq_iff_iff]; simp; omega
     have hsz := hf.size
     have hln : (bitsB (P.take k) ++ bitsN j x).length ≤ 100000 := by rw [List.length_append,length_bitsN,HL.out]; omega
     go_wp2_with (at_builtin; refine wpList_append_own _ rfl _ _ 75 rfl w.heap.size 4 i0 (.bool false) 1 1 Tryz.underlying75 hi hz0 hz1 hz2 rfl (by decide) _ _ _ rfl (World.ownsRow.alloc hB _) ⟨_,0,none⟩ 1 1 [.bool bb] rfl rfl (cell_one_new _ _ _) (one_bool _) (by unfold maxLen; omega) (by omega) (by simp; omega) ?_)
     intro u' w2 ho2 hg2 _
     have H2 : Hid (Bo w.heap.size w2 u' (bitsB (P.take k) ++ bitsN (j + 1) x) ∧ Fr Nobody w w2) := by
      refine ⟨?_,(hf.alloc _).grown hg2 (fun q hq => .inr (World.ownsRow.lt hB q hq).1)⟩
      unfold Bo
      rw [bitsN_snoc,HB.out,← List.append_assoc,brow_append (bitsB (P.take k) ++ bitsN j x),show (bitsB (P.take k) ++ bitsN j x ++ [bb]).length = (bitsB (P.take k)).length + (bitsN j x).length + 1 from by rw [List.length_append,List.length_append]; rfl]
      exact ho2
     have HY2 : Hid (y / 2 = x / 2 ^ (j + 1)) := by show _ = _; rw [HY.out,half_pow]
     clear hB hf ho2 hg2 HB HY hbb hln
     go_wp2
     go_roundw
     case rel => exact ⟨j + 1,y / 2,by omega,by go_num,HY2.out,by go_num,H2.out.1,H2.out.2⟩
     case measure => simp [intOf]; omega
    ·have ej : j = 8 := by omega
     subst ej
     have H3 : Hid (Bo w.heap.size _ _ (bitsB (P.take (k + 1))) ∧ Fr Nobody w _) := ⟨by rw [HS.out]; exact hB,hf⟩
     clear hB hf HY
     go_wp2
     go_roundw
     case rel => exact ⟨k + 1,by omega,by go_num,H3.out.1,H3.out.2⟩
     case measure => simp [intOf]; omega
  ·have ek : P.take k = P := List.take_of_length_le (by rw [HP.out.2.1]; omega)
   rw [ek] at H1
   clear ek
   go_wp2
   go_ret
   exact ⟨_,rfl,H1.out.1,H1.out.2⟩
theorem Bs.shape {w : World} {v : Value} {L : List Bool} (h : Bs w v L) : ∃ ao cap,v = .slice ao L.length cap := by
 rcases h with ⟨rfl,rfl⟩ | ⟨g,o,cap,cur,rfl,_⟩
 ·exact ⟨none,0,rfl⟩
 ·exact ⟨_,_,rfl⟩
theorem rget_short (w : World) (v : Value) (L : List Bool) (n : Nat) (h : Bs w v L) (hn : n ≤ 64) (hs : L.length < n) : Calls Tryz.prog 105 #[v,.int .i64 n] w fun e w' => e = .returned (.tuple #[.int .u64 0,v,.int .i64 2]) ∧ w' = w := by
 have h0 : ¬ (n : Int) < 0 := by omega
 have h1 : ¬ (64 : Int) < (n : Int) := by omega
 have h2 : (L.length : Int) < (n : Int) := by omega
 obtain ⟨ao,cap,rfl⟩ := h.shape
 clear h
 go_enter Tryz.func105,Tryz.ntmps105
 go_wp2
 go_ret3
 exact ⟨rfl,rfl⟩
theorem num_step (L : List Bool) (i : Nat) (b : Bool) (h : L[i]? = some b) : num (L.drop i) = b.toNat + 2 * num (L.drop (i + 1)) := by
 have hi : i < L.length := by
  rcases Nat.lt_or_ge i L.length with hh | hh
  ·exact hh
  ·rw [List.getElem?_eq_none hh] at h; cases h
 rw [List.drop_eq_getElem_cons hi,num]
 rw [List.getElem?_eq_getElem hi] at h
 cases h; rfl
theorem Bs.drop {w : World} {ao : Option Addr} {cap : Nat} {L : List Bool} (h : Bs w (.slice ao L.length cap) L) (n : Nat) (hn : n ≤ L.length) : Bs w (.slice (if cap = n then ao else ao.map (fun x => x.add n)) (L.length - n) (cap - n)) (L.drop n) := by
 rcases h with ⟨hv,rfl⟩ | ⟨g,o,cap',cur,hv,hc,hg,hcell⟩
 ·simp only [Value.slice.injEq] at hv
  obtain ⟨rfl,_,rfl⟩ := hv
  left
  simp at hn
  subst hn
  simp
 ·simp only [Value.slice.injEq] at hv
  obtain ⟨rfl,_,rfl⟩ := hv
  right
  by_cases e : cap = n
  ·refine ⟨g,o,cap - n,cur,by rw [if_pos e,List.length_drop],by rw [List.length_drop]; omega,hg,fun j u hu => ?_⟩
   rw [List.drop_of_length_le (by omega)] at hu
   simp [brow] at hu
  ·refine ⟨g,o + n,cap - n,cur,by rw [if_neg e,List.length_drop]; simp [addr_add],by rw [List.length_drop]; omega,hg,fun j u hu => ?_⟩
   rw [Nat.add_assoc]
   refine hcell (n + j) u ?_
   rw [brow,List.getElem?_map] at hu ⊢
   rw [List.getElem?_drop] at hu
   exact hu
theorem rget_ok (w : World) (v : Value) (L : List Bool) (n : Nat) (h : Bs w v L) (hn : n ≤ 64) (hs : n ≤ L.length) (hL : L.length ≤ 100000000) :
  Calls Tryz.prog 105 #[v,.int .i64 n] w fun e w' => ∃ v',e = .returned (.tuple #[.int .u64 (num (L.take n) : Nat),v',.int .i64 0]) ∧ Bs w' v' (L.drop n) ∧ Fr Nobody w w' := by
 have h0 : ¬ (n : Int) < 0 := by omega
 have h1 : ¬ (64 : Int) < (n : Int) := by omega
 have h2 : ¬ (L.length : Int) < (n : Int) := by omega
 obtain ⟨ao,cap,rfl⟩ := h.shape
 have H : Hid (Bs w (.slice ao L.length cap) L) := h
 clear h
 go_enter Tryz.func105,Tryz.ntmps105
 go_wp2
 clear h0 h1 h2
 go_loopw [7,8] (fun xv c wr => ∃ k : Nat,k ≤ n ∧ c = .int .i64 ((k : Int) - 1) ∧ xv = .int .u64 ((num ((L.take n).drop k) : Nat) : Int) ∧ wr = w) (fun _ c _ => (intOf c + 1).toNat)
 case atStart => exact ⟨n,Nat.le_refl _,by simp,by rw [List.drop_of_length_le (by rw [List.length_take]; omega)]; rfl,rfl⟩
 case round =>
  obtain ⟨k,hk,rfl,rfl,rfl⟩ := hrel
  by_cases hpos : 0 < k
  ·obtain ⟨i,rfl⟩ : ∃ i,k = i + 1 := ⟨k - 1,by omega⟩
   obtain ⟨b,hb⟩ : ∃ b,L[i]? = some b := ⟨_,List.getElem?_eq_getElem (by omega)⟩
   have hb2 : (L.take n)[i]? = some b := by rw [List.getElem?_take,if_pos (by omega)]; exact hb
   have HS : Hid _ := num_step (L.take n) i b hb2
   have HLt : Hid (num ((L.take n).drop i) < 18446744073709551616) := by
    have h3 := num_lt ((L.take n).drop i)
    have h4 : ((L.take n).drop i).length ≤ 64 := by rw [List.length_drop,List.length_take]; omega
    exact Nat.lt_of_lt_of_le h3 (Nat.pow_le_pow_right (by decide) h4)
   obtain ⟨g,o,hao,cx⟩ : ∃ g o,ao = some ⟨g,o,none⟩ ∧ wr.cell? ⟨g,o + i,none⟩ = some (.bool b) := by
    rcases H.out with ⟨_,h0⟩ | ⟨g,o,cap',cur,hv,_,hg,hc⟩
    ·subst h0; simp at hb
    ·simp only [Value.slice.injEq] at hv
     refine ⟨g,o,hv.1,?_⟩
     rw [cell_of_row wr g _ cur 4 (0,0) hg]
     exact hc i (.bool b) (by simp [brow,hb])
   subst hao
   have hge : (0 : Int) ≤ ((i + 1 : Nat) : Int) - 1 := by omega
   have hii : (((i + 1 : Nat) : Int) - 1) = (i : Int) := by omega
   generalize num ((L.take n).drop (i + 1)) = y at *
   have hy2 : 2 * y + 1 < 18446744073709551616 := by
    have := HS.out; have := HLt.out; cases b <;> simp at * <;> omega
   clear hb hb2
   cases b
   ·go_wp2
    go_roundw
    case rel => exact ⟨i,by omega,rfl,by rw [HS.out]; simp [Int.mul_comm],trivial⟩
    case measure => simp [intOf]
   ·go_wp2
    go_roundw
    case rel => exact ⟨i,by omega,rfl,by rw [HS.out]; simp [Int.mul_comm,Int.add_comm],trivial⟩
    case measure => simp [intOf]
  ·have hk0 : k = 0 := by omega
   subst hk0
   rw [List.drop_zero]
   have hcap : L.length ≤ cap := by
    rcases H.out with ⟨hv,h0⟩ | ⟨g,o,cap',cur,hv,hc,_⟩
    ·subst h0; exact Nat.zero_le _
    ·simp only [Value.slice.injEq] at hv; omega
   have HD := H.out.drop n hs
   by_cases e : cap = n
   ·subst e
    have HD2 : Hid (Bs wr (.slice ao 0 0) (L.drop cap)) := by
     rw [if_pos rfl,Nat.sub_self,show L.length - cap = 0 from by omega] at HD; exact HD
    clear HD
    go_wp2
    go_quiet (fail)
    go_wp2
    go_ret3
    exact ⟨_,rfl,HD2.out.quiet ((Fr.refl _ _).drewN _),(Fr.refl _ _).drewN _⟩
   ·have HD2 : Hid (Bs wr (.slice (ao.map (fun x => x.add n)) (L.length - n) (cap - n)) (L.drop n)) := by
     rw [if_neg e] at HD; exact HD
    clear HD
    go_wp2
    go_quiet (fail)
    go_wp2
    go_ret3
    exact ⟨_,rfl,HD2.out.quiet ((Fr.refl _ _).drewN _),(Fr.refl _ _).drewN _⟩
def vTo (L : List Bool) : Nat → Nat
 | 0 => 0
 | k + 1 => vTo L k + g5 (L.drop (5 * k)) % 16 * 2 ^ (4 * k)
theorem vTo_lt (L : List Bool) (k : Nat) : vTo L k < 2 ^ (4 * k) := by
 induction k with
 | zero => simp [vTo]
 | succ k ih => rw [vTo]; exact vstep_lt _ _ _ ih
theorem vTo_split (L : List Bool) (j m : Nat) : ∃ q,vTo L (j + m) = vTo L j + 2 ^ (4 * j) * q := by
 induction m with
 | zero => exact ⟨0,by simp⟩
 | succ m ih =>
  obtain ⟨q,hq⟩ := ih
  refine ⟨q + g5 (L.drop (5 * (j + m))) % 16 * 2 ^ (4 * m),?_⟩
  rw [← Nat.add_assoc,vTo,hq,Nat.mul_add,Nat.add_assoc]
  congr 2
  rw [show 4 * (j + m) = 4 * j + 4 * m from by omega,Nat.pow_add,Nat.mul_left_comm,Nat.mul_add]
theorem vTo_nib (L : List Bool) (n j : Nat) (h : j < n) : vTo L n / 2 ^ (4 * j) % 16 = g5 (L.drop (5 * j)) % 16 := by
 obtain ⟨m,rfl⟩ : ∃ m,n = (j + 1) + m := ⟨n - (j + 1),by omega⟩
 obtain ⟨q,hq⟩ := vTo_split L (j + 1) m
 have hp := Nat.two_pow_pos (4 * j)
 have e : 2 ^ (4 * (j + 1)) = 2 ^ (4 * j) * 16 := by rw [show 4 * (j + 1) = 4 * j + 4 from by omega,Nat.pow_add]
 have hs : vTo L (j + 1 + m) = vTo L j + 2 ^ (4 * j) * (g5 (L.drop (5 * j)) % 16 + 16 * q) := by
  rw [hq,vTo,e,Nat.mul_add,Nat.mul_comm (g5 (L.drop (5 * j)) % 16),← Nat.mul_assoc,Nat.add_assoc]
 rw [hs,Nat.add_mul_div_left _ _ hp,Nat.div_eq_of_lt (vTo_lt L j),Nat.zero_add]
 omega
theorem vTo_step (L : List Bool) (n j : Nat) (h : j < n) : vTo L n / 2 ^ (4 * j) = 16 * (vTo L n / 2 ^ (4 * (j + 1))) + g5 (L.drop (5 * j)) % 16 := by
 rw [← vTo_nib L n j h]
 have e : vTo L n / 2 ^ (4 * (j + 1)) = vTo L n / 2 ^ (4 * j) / 16 := by rw [Nat.div_div_eq_div_mul,show 4 * (j + 1) = 4 * j + 4 from by omega,Nat.pow_add]
 rw [e]; omega
theorem num_take_mod (l : List Bool) (m n : Nat) (h : m ≤ n) : num (l.take m) = num (l.take n) % 2 ^ m := by
 induction l generalizing m n with
 | nil => simp [num]
 | cons b l ih =>
  cases m with
  | zero => simp [num,Nat.mod_one]
  | succ m =>
   obtain ⟨n',rfl⟩ : ∃ n',n = n' + 1 := ⟨n - 1,by omega⟩
   rw [List.take_succ_cons,List.take_succ_cons,num,num,ih m n' (by omega),Nat.pow_succ',Nat.mod_mul]
   have h1 : (b.toNat + 2 * num (l.take n')) / 2 = num (l.take n') := by cases b <;> simp <;> omega
   have h2 : (b.toNat + 2 * num (l.take n')) % 2 = b.toNat := by cases b <;> simp <;> omega
   rw [h1,h2]
theorem g5_low (M : List Bool) : num (M.take 4) = g5 M % 16 := by
 unfold g5; exact num_take_mod M 4 5 (by decide)
theorem g5_top (M : List Bool) (b : Bool) (h : M[4]? = some b) : 16 ≤ g5 M ↔ b = true := by
 unfold g5
 have hl : 4 < M.length := by
  rcases Nat.lt_or_ge 4 M.length with hh | hh
  ·exact hh
  ·rw [List.getElem?_eq_none hh] at h; cases h
 rw [show (5 : Nat) = 4 + 1 from rfl,List.take_add_one,h,num_append,List.length_take,Nat.min_eq_left (by omega)]
 have := num_lt (M.take 4)
 rw [List.length_take,Nat.min_eq_left (by omega)] at this
 cases b
 ·simp [num]; omega
 ·simp [num]
end Go.Proofs.YtgifeckbflkkpaaGreatDoor
