/- Slices that came in; a writer and a list side by side; what 'written' of the laws makes. -/
import Derived.Test.YtgifeckbflkkpaaGreatDoorQl07
import Derived.Test.YtgifeckbflkkpaaGreatDoorQl06
import Derived.Deep.RegionWith
namespace Go.Proofs.YtgifeckbflkkpaaGreatDoor
open Go.RowKit
set_option linter.unusedVariables false
set_option maxHeartbeats 1000000
set_option maxRecDepth 100000
def IsRow (k : IntKind) (w : World) (a : Option Addr) (len cap : Nat) (zs : List Int) : Prop :=
 (a = none ∧ len = 0 ∧ cap = 0 ∧ zs = []) ∨
 ∃ x,a = some x ∧ len ≤ cap ∧ cap ≤ maxLen ∧ zs.length = cap ∧ (∀ i,i < zs.length → w.cell? (x.add i) = some (.int k (zs.getD i 0))) ∧ ∀ n ∈ zs,(Lit.int k n).wf = true
def Ints (k : IntKind) (w : World) (ao : Option Addr) (P : List Int) : Prop :=
 P = [] ∨ ∃ g o,ao = some ⟨g,o,none⟩ ∧ ∀ j x,P[j]? = some x → w.cell? ⟨g,o + j,none⟩ = some (.int k x)
theorem Ints.quiet {k : IntKind} {w w' : World} {ao : Option Addr} {P : List Int} (h : Ints k w ao P) (hf : Fr Nobody w w') : Ints k w' ao P := by
 rcases h with h | ⟨g,o,ha,hc⟩
 ·exact .inl h
 ·refine .inr ⟨g,o,ha,fun j x hx => ?_⟩
  have h1 := hc j x hx
  exact (hf.cell (p := ⟨g,o + j,none⟩) (World.block_lt_of_cell? w _ h1) id).trans h1
def Both (w0 w : World) (b : Nat) (v : Value) (L : List Bool) : Prop := Ow w0 w b L ∧ Bo w0.heap.size w v L
theorem Ow.apart {w0 w : World} {b : Nat} {M : List Bool} (h : Ow w0 w b M) : ∃ g,Wr w0.heap.size w b g M ∧ ∀ k cur,w.heap[k]? = some (.cells cur 4 (0,0)) → ¬ At b g k := by
 obtain ⟨g,hW,_⟩ := h
 exact ⟨g,hW,hW.apart⟩
theorem Both.fr {w0 w : World} {b : Nat} {v : Value} {L : List Bool} (h : Both w0 w b v L) : Fr Nobody w0 w := h.1.fr
theorem lt_bitLen (x : Nat) (h : x < 18446744073709551616) : x < 2 ^ Lib.bitLen x := by
 induction x using Nat.strongRecOn with
 | ind x ih =>
  by_cases h0 : x = 0
  ·subst h0; exact Nat.two_pow_pos _
  ·rw [Lib.bitLen_half x h0 h,Nat.add_comm,Nat.pow_succ]
   have := ih (x / 2) (by omega) (by omega)
   omega
theorem wid_le (lo hi : Int) (h0 : -9223372036854775808 ≤ lo) (h1 : hi ≤ 9223372036854775807) : wid lo hi ≤ 64 := by
 unfold wid
 split
 ·omega
 ·exact bitLen_64 _ (by omega)
theorem in_lt (n lo hi : Int) (h0 : -9223372036854775808 ≤ lo) (h1 : hi ≤ 9223372036854775807) (ha : lo ≤ n) (hb : n ≤ hi) : (n - lo).toNat < 2 ^ wid lo hi := by
 unfold wid
 rw [if_neg (by omega)]
 have := lt_bitLen (hi - lo).toNat (by omega)
 omega
theorem bitLen0 : Lib.bitLen 0 = 0 := by decide +kernel
theorem rwidth_any (lo hi : Int) (w : World) (h0 : -9223372036854775808 ≤ lo) (h1 : hi ≤ 9223372036854775807) (h2 : lo ≤ 9223372036854775807) (h3 : -9223372036854775808 ≤ hi) :
  Calls Tryz.prog 136 #[.int .i64 lo,.int .i64 hi] w fun e w' => e = .returned (.int .i64 (wid lo hi : Nat)) ∧ w' = w := by
 by_cases h : hi < lo
 ·have e0 : wid lo hi = 0 := by unfold wid; rw [if_pos h]
  rw [e0]
  go_enter Tryz.func136,Tryz.ntmps136
  go_wp2
  go_ret
  exact ⟨rfl,rfl⟩
 ·have e0 : wid lo hi = Lib.bitLen (hi - lo).toNat := by unfold wid; rw [if_neg h]
  obtain ⟨d,hd⟩ : ∃ d : Nat,d = (hi - lo).toNat := ⟨_,rfl⟩
  rw [e0,← hd]
  have hd2 : d < 18446744073709551616 := by omega
  have hq : IntKind.u64.wrap (IntKind.u64.wrap hi - IntKind.u64.wrap lo) = (d : Int) := by simp only [wrapU]; omega
  have hb := bitLen_64 d hd2
  clear e0 hd
  generalize hl : Lib.bitLen d = l at *
  have HL : Hid (Lib.bitLen d = l) := hl
  clear hl
  go_enter Tryz.func136,Tryz.ntmps136
  go_wp2
  clear hq
  go_loopw [5,6] (fun c xv wr => ∃ k y : Nat,c = .int .i64 k ∧ xv = .int .u64 y ∧ k + Lib.bitLen y = l ∧ y < 18446744073709551616 ∧ wr = w) (fun _ xv _ => (intOf xv).toNat)
  case atStart => exact ⟨0,d,rfl,rfl,by rw [HL.out]; omega,hd2,rfl⟩
  case round =>
   obtain ⟨k,y,rfl,rfl,hy,hy2,rfl⟩ := hrel
   have HY : Hid (k + Lib.bitLen y = l) := hy
   have hkl : k ≤ l := by omega
   clear hy
   by_cases hpos : 0 < y
   ·have HY2 : Hid (k + 1 + Lib.bitLen (y / 2) = l) := by
     have := Lib.bitLen_half y (by omega) hy2
     have := HY.out
     show _ = _; omega
    go_wp2
    go_roundw
    case rel => exact ⟨k + 1,y / 2,by go_num,by go_num,HY2.out,by omega,trivial⟩
    case measure => simp [intOf]; omega
   ·have hy0 : y = 0 := by omega
    subst hy0
    have hkl2 : k = l := by have := HY.out; rw [bitLen0] at this; omega
    go_wp2
    go_ret
    exact ⟨ret_int (by omega),rfl⟩
theorem rin_ok (n lo hi : Int) (d : Nat) (w : World) (hd : n = lo + (d : Int)) (h0 : -9223372036854775808 ≤ lo) (h1 : hi ≤ 9223372036854775807) (ha : lo ≤ n) (hb : n ≤ hi) :
  Calls Tryz.prog 123 #[.int .i64 n,.int .i64 lo,.int .i64 hi] w fun e w' => ∃ v,e = .returned (.tuple #[v,.int .i64 0]) ∧ Bo w.heap.size w' v (bitsN (wid lo hi) d) ∧ Fr Nobody w w' := by
 have hle : lo ≤ hi := by omega
 have ed : (n - lo).toNat = d := by omega
 have hq : IntKind.u64.wrap (IntKind.u64.wrap n - IntKind.u64.wrap lo) = (d : Int) := by simp only [wrapU]; omega
 have HI : d < 2 ^ wid lo hi := ed ▸ in_lt n lo hi h0 h1 ha hb
 have HW : wid lo hi ≤ 64 := wid_le lo hi h0 h1
 have hdl : d < 18446744073709551616 := by omega
 have e1 : d / 2 ^ wid lo hi = 0 := Nat.div_eq_of_lt HI
 have e2 : rputE [] d (wid lo hi) = 0 := by unfold rputE; rw [if_pos e1,if_pos (by simp; omega)]
 have e3 : rputL [] d (wid lo hi) = bitsN (wid lo hi) d := by unfold rputL; rw [if_pos ⟨e1,by simp; omega⟩]; rfl
 have G : Hid _ := fun w => rput_own w.heap.size w (.slice none 0 0) [] d (wid lo hi) (Bo.nil _ _) (Nat.le_refl _) (by decide) hdl HW
 have G2 : Hid _ := fun w => rwidth_any lo hi w h0 h1 (by omega) (by omega)
 rw [e2,e3] at G
 generalize wid lo hi = m at *
 clear ed HI HW e1 e2 e3 hd
 go_enter Tryz.func123,Tryz.ntmps123
 go_wp2_with fail
 refine (G2.out _).mono ?_
 rintro e w' ⟨rfl,rfl⟩
 go_wp2_with fail
 refine (G.out _).mono ?_
 rintro e w1 ⟨v,rfl,hO,hf⟩
 go_wp2
 go_ret2
 exact ⟨v,rfl,hO,hf⟩
theorem append_bits {w : World} {ops : Array Oper} {rest : List Oper} {o : Oper} {a : Act} {Q : Exit → Act → World → Prop} (hgd : o.guard = none) (s x : Operand)
  (ho : o.op = .call { callee := .builtin .append,args := #[s,x],argTypes := #[75,75] }) (B : Nat) (v u : Value) (L M : List Bool) (h : Bo B w v L) (hM : Bs w u M) (hL : L.length ≤ 100000000) (hM2 : M.length ≤ 100000000) (hB : B ≤ w.heap.size)
  (hs : a.eval s = v) (hx : a.eval x = u)
  (hK : ∀ v' w',Bo B w' v' (L ++ M) → w.grownBy w' v.ownBlock → wpList Tryz.prog ops Q rest (a.put o.dst v') w') :
  wpList Tryz.prog ops Q (o :: rest) a w := by
 obtain ⟨i0,hi,hz0,hz1,hz2⟩ := info_parts Tryz.infoBool
 rcases hM with ⟨rfl,rfl⟩ | ⟨g,off,cap,cur,rfl,hn,hg,hc⟩
 ·refine wpList_plain hgd fun K hK' => ?_
  have hr := run_append_owned_none (P := Tryz.prog) w B 75 o.type 4 i0 1 Tryz.underlying75 hi v L.length (brow L) h
  unfold Oper.wp
  simp [execOp,ho,resolve,invoke,builtin,hs,hx,hr,Result.andThen]
  exact hK' _ _ (hK v w (by simpa using h) ⟨rfl,rfl,rfl,Nat.le_refl _,fun _ _ _ => rfl⟩)
 ·refine wpList_append_own w hgd s x 75 ho B 4 i0 (.bool false) 1 1 Tryz.underlying75 hi hz0 hz1 hz2 rfl (by decide) v L.length (brow L) hs h ⟨g,off,none⟩ M.length cap (brow M) hx (by rw [length_brow]; omega) ?_ (one_brow M) (by unfold maxLen; omega) (by omega) hB ?_
  ·intro j u hu
   rw [addr_add,cell_of_row w g _ cur 4 (0,0) hg]
   exact hc j u hu
  ·intro v' w' ho' hg' _
   refine hK v' w' ?_ hg'
   unfold Bo
   rw [brow_append,List.length_append]
   exact ho'
theorem Ow.grown {w0 w w' : World} {b : Nat} {M L : List Bool} {v : Value} (h : Ow w0 w b M) (hv : Bo w0.heap.size w v L) (hg : w.grownBy w' v.ownBlock) : Ow w0 w' b M := by
 obtain ⟨g,hW,hF⟩ := h
 have hfr : Fr (fun k => v.ownBlock = some k) w w' := Fr.grown (S := fun k => v.ownBlock = some k) (Fr.refl _ w) hg (fun k hk => .inl hk)
 have hap : ∀ k,At b g k → ¬ v.ownBlock = some k := by
  intro k hk e
  rcases hv.2 with ⟨rfl,_⟩ | ⟨g',cap,cur,rfl,_,hgg,_⟩
  ·simp [Value.ownBlock] at e
  ·simp [Value.ownBlock] at e
   subst e
   exact hW.apart _ cur hgg hk
 refine ⟨g,hW.keep hfr (hap b (.inl rfl)) (fun k hk => hap k (.inr hk.symm)),hF.fresh hfr (fun k hk => (World.ownsRow.lt hv k hk).1)⟩
def wd (k j : Nat) : Nat := wid (lo k j) (hi k j)
def bsum (k : Nat) : Nat → Nat
 | 0 => 0
 | n + 1 => bsum k n + wd k n
def bitsK (k : Nat) : Nat := bsum k (cnt k)
theorem rng_ok (k j : Nat) (h : j < cnt k) : -524288 ≤ lo k j ∧ lo k j ≤ 1 ∧ 7 ≤ hi k j ∧ hi k j ≤ 524287 := by
 rcases pairs k j h with ⟨rfl,rfl | rfl⟩ | ⟨rfl,rfl | rfl⟩ | ⟨rfl,rfl⟩ | ⟨rfl,rfl | rfl | rfl⟩ | ⟨rfl,rfl | rfl | rfl⟩ | ⟨rfl,rfl | rfl | rfl⟩ <;> decide
theorem wd_le (k j : Nat) (h : j < cnt k) : 3 ≤ wd k j ∧ wd k j ≤ 20 := by
 rcases pairs k j h with ⟨rfl,rfl | rfl⟩ | ⟨rfl,rfl | rfl⟩ | ⟨rfl,rfl⟩ | ⟨rfl,rfl | rfl | rfl⟩ | ⟨rfl,rfl | rfl | rfl⟩ | ⟨rfl,rfl | rfl | rfl⟩ <;> decide +kernel
theorem bsum_le (k n : Nat) (h : n ≤ cnt k) : bsum k n ≤ 20 * n := by
 induction n with
 | zero => simp [bsum]
 | succ n ih =>
  have := ih (by omega)
  have := wd_le k n (by omega)
  simp only [bsum]; omega
set_option maxRecDepth 100000 in
theorem bits_any (w : World) (ht : Tab w) (k : Nat) (hk : k < 256) :
  Calls Tryz.prog 204 #[.int .u8 (k : Int)] w fun e w' => e = .returned (.int .i64 ((bitsK k : Nat) : Int)) ∧ Fr Nobody w w' := by
 have H : Hid (Tab w) := ht
 clear ht
 have hc := cnt_le k
 obtain ⟨c,ec⟩ : ∃ c,cnt k = c := ⟨_,rfl⟩
 have EC : Hid (cnt k = c) := ec
 rw [ec] at hc
 clear ec
 have EB : Hid (bitsK k = bsum k c) := by show _ = _; rw [bitsK,EC.out]
 go_enter Tryz.func204,Tryz.ntmps204
 go_wp2_with fail
 refine (count_any w H.out k hk).mono ?_
 rintro e w' ⟨rfl,rfl⟩
 rw [EC.out]
 go_wp2
 go_loopw [3,7] (fun a b wr => ∃ j : Nat,j ≤ c ∧ b = .int .i64 j ∧ a = .int .i64 (bsum k j : Nat) ∧ Fr Nobody w' wr) (fun _ b _ => c - (intOf b).toNat)
 case atStart => exact ⟨0,by omega,rfl,rfl,Fr.refl _ _⟩
 case round =>
  obtain ⟨j,hj,rfl,rfl,hf⟩ := hrel
  have HF : Hid (Fr Nobody w' wr) := hf
  clear hf
  by_cases hlt : j < c
  ·have hjc : j < cnt k := by rw [EC.out]; exact hlt
   obtain ⟨l0,l1,l2,l3⟩ := rng_ok k j hjc
   have h6 : k < 6 := by
    rcases Nat.lt_or_ge k 6 with h | h
    ·exact h
    ·rw [cnt_out k h] at hjc; omega
   have hx := (H.out.quiet HF.out).lo k j h6 (by omega)
   have hy := (H.out.quiet HF.out).hi k j h6 (by omega)
   have hb := bsum_le k j (by omega)
   have HW : Hid (∀ w,Calls Tryz.prog 165 #[.int .i64 (lo k j),.int .i64 (hi k j)] w fun e w' => e = .returned (.int .i64 (wd k j : Nat)) ∧ w' = w) := fun w => width_any (lo k j) (hi k j) w (by omega) (by omega) (by omega) (by omega)
   have hw := wd_le k j hjc
   have HS : Hid (bsum k (j + 1) = bsum k j + wd k j) := rfl
   generalize lo k j = x at *
   generalize hi k j = y at *
   generalize wd k j = z at *
   generalize bsum k j = s at *
   clear hjc
   go_wp2
   go_quiet (refine Calls.quiet_of_same (HW.out _))
   have HF2 : Hid (Fr Nobody w' (wr.drewN nq)) := HF.out.drewN nq
   go_wp2
   go_roundw
   case rel => exact ⟨j + 1,by omega,by go_num,by rw [HS.out]; go_num,HF2.out⟩
   case measure => simp [intOf]; omega
  ·have e : j = c := by omega
   subst e
   go_wp2
   go_ret
   exact ⟨by rw [EB.out]; rfl,HF.out⟩
end Go.Proofs.YtgifeckbflkkpaaGreatDoor
