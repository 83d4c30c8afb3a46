/- The document's side of layer 2: Width and In; appending one list of bits to another. -/
import Derived.Test.YtgifeckbflkkpaaGreatDoorQp06
import Derived.Test.YtgifeckbflkkpaaGreatDoorQp05
import Derived.Deep.RegionWith
namespace Go.Proofs.YtgifeckbflkkpaaGreatDoor
open Go.RowKit
set_option linter.unusedVariables false
set_option maxHeartbeats 2000000
set_option maxRecDepth 100000
theorem bitLen0 : Lib.bitLen 0 = 0 := by decide +kernel
theorem rwidth_any (lo hi : Int) (w : World) (h0 : -9223372036854775808 ≤ lo) (h1 : hi ≤ 9223372036854775807) (h2 : lo ≤ 9223372036854775807) (h3 : -9223372036854775808 ≤ hi) :
  Calls Tryz.prog 136 #[.int .i64 lo,.int .i64 hi] w fun e w' => e = .returned (.int .i64 (wid lo hi : Nat)) ∧ w' = w := by
 by_cases h : hi < lo
 ·have e0 : wid lo hi = 0 := by unfold wid; rw [if_pos h]
  rw [e0]
  go_enter Tryz.func136,Tryz.ntmps136
  go_wp2
  go_ret
  exact ⟨rfl,rfl⟩
 ·have e0 : wid lo hi = Lib.bitLen (hi - lo).toNat := by unfold wid; rw [if_neg h]
  obtain ⟨d,hd⟩ : ∃ d : Nat,d = (hi - lo).toNat := ⟨_,rfl⟩
  rw [e0,← hd]
  have hd2 : d < 18446744073709551616 := by omega
  have hq : IntKind.u64.wrap (IntKind.u64.wrap hi - IntKind.u64.wrap lo) = (d : Int) := by simp only [wrapU]; omega
  have hb := bitLen_64 d hd2
  clear e0 hd
  generalize hl : Lib.bitLen d = l at *
  have HL : Hid (Lib.bitLen d = l) := hl
  clear hl
  go_enter Tryz.func136,Tryz.ntmps136
  go_wp2
  clear hq
  go_loopw [5,6] (fun c xv wr => ∃ k y : Nat,c = .int .i64 k ∧ xv = .int .u64 y ∧ k + Lib.bitLen y = l ∧ y < 18446744073709551616 ∧ wr = w) (fun _ xv _ => (intOf xv).toNat)
  case atStart => exact ⟨0,d,rfl,rfl,by rw [HL.out]; omega,hd2,rfl⟩
  case round =>
   obtain ⟨k,y,rfl,rfl,hy,hy2,rfl⟩ := hrel
   have HY : Hid (k + Lib.bitLen y = l) := hy
   have hkl : k ≤ l := by omega
   clear hy
   by_cases hpos : 0 < y
   ·have HY2 : Hid (k + 1 + Lib.bitLen (y / 2) = l) := by
     have := Lib.bitLen_half y (by omega) hy2
     have := HY.out
     show _ = _; omega
    go_wp2
    go_roundw
    case rel => exact ⟨k + 1,y / 2,by go_num,by go_num,HY2.out,by omega,trivial⟩
    case measure => simp [intOf]; omega
   ·have hy0 : y = 0 := by omega
    subst hy0
    have hkl2 : k = l := by have := HY.out; rw [bitLen0] at this; omega
    go_wp2
    go_ret
    exact ⟨ret_int (by omega),rfl⟩
theorem rin_ok (n lo hi : Int) (d : Nat) (w : World) (hd : n = lo + (d : Int)) (h0 : -9223372036854775808 ≤ lo) (h1 : hi ≤ 9223372036854775807) (ha : lo ≤ n) (hb : n ≤ hi) :
  Calls Tryz.prog 123 #[.int .i64 n,.int .i64 lo,.int .i64 hi] w fun e w' => ∃ v,e = .returned (.tuple #[v,.int .i64 0]) ∧ Bo w.heap.size w' v (bitsN (wid lo hi) d) ∧ Fr Nobody w w' := by
 have hle : lo ≤ hi := by omega
 have ed : (n - lo).toNat = d := by omega
 have hq : IntKind.u64.wrap (IntKind.u64.wrap n - IntKind.u64.wrap lo) = (d : Int) := by simp only [wrapU]; omega
 have HI : d < 2 ^ wid lo hi := ed ▸ in_lt n lo hi h0 h1 ha hb
 have HW : wid lo hi ≤ 64 := wid_le lo hi h0 h1
 have hdl : d < 18446744073709551616 := by omega
 have e1 : d / 2 ^ wid lo hi = 0 := Nat.div_eq_of_lt HI
 have e2 : rputE [] d (wid lo hi) = 0 := by unfold rputE; rw [if_pos e1,if_pos (by simp; omega)]
 have e3 : rputL [] d (wid lo hi) = bitsN (wid lo hi) d := by unfold rputL; rw [if_pos ⟨e1,by simp; omega⟩]; rfl
 have G : Hid _ := fun w => rput_own w.heap.size w (.slice none 0 0) [] d (wid lo hi) (Bo.nil _ _) (Nat.le_refl _) (by decide) hdl HW
 have G2 : Hid _ := fun w => rwidth_any lo hi w h0 h1 (by omega) (by omega)
 rw [e2,e3] at G
 generalize wid lo hi = m at *
 clear ed HI HW e1 e2 e3 hd
 go_enter Tryz.func123,Tryz.ntmps123
 go_wp2_with fail
 refine (G2.out _).mono ?_
 rintro e w' ⟨rfl,rfl⟩
 go_wp2_with fail
 refine (G.out _).mono ?_
 rintro e w1 ⟨v,rfl,hO,hf⟩
 go_wp2
 go_ret2
 exact ⟨v,rfl,hO,hf⟩
theorem append_bits {w : World} {ops : Array Oper} {rest : List Oper} {o : Oper} {a : Act} {Q : Exit → Act → World → Prop} (hgd : o.guard = none) (s x : Operand)
  (ho : o.op = .call { callee := .builtin .append,args := #[s,x],argTypes := #[75,75] }) (B : Nat) (v u : Value) (L M : List Bool) (h : Bo B w v L) (hM : Bs w u M) (hL : L.length ≤ 100000000) (hM2 : M.length ≤ 100000000) (hB : B ≤ w.heap.size)
  (hs : a.eval s = v) (hx : a.eval x = u)
  (hK : ∀ v' w',Bo B w' v' (L ++ M) → w.grownBy w' v.ownBlock → wpList Tryz.prog ops Q rest (a.put o.dst v') w') :
  wpList Tryz.prog ops Q (o :: rest) a w := by
 obtain ⟨i0,hi,hz0,hz1,hz2⟩ := info_parts Tryz.infoBool
 rcases hM with ⟨rfl,rfl⟩ | ⟨g,off,cap,cur,rfl,hn,hg,hc⟩
 ·refine wpList_plain hgd fun K hK' => ?_
  have hr := run_append_owned_none (P := Tryz.prog) w B 75 o.type 4 i0 1 Tryz.underlying75 hi v L.length (brow L) h
  unfold Oper.wp
  simp [execOp,ho,resolve,invoke,builtin,hs,hx,hr,Result.andThen]
  exact hK' _ _ (hK v w (by simpa using h) ⟨rfl,rfl,rfl,Nat.le_refl _,fun _ _ _ => rfl⟩)
 ·refine wpList_append_own w hgd s x 75 ho B 4 i0 (.bool false) 1 1 Tryz.underlying75 hi hz0 hz1 hz2 rfl (by decide) v L.length (brow L) hs h ⟨g,off,none⟩ M.length cap (brow M) hx (by rw [length_brow]; omega) ?_ (one_brow M) (by unfold maxLen; omega) (by omega) hB ?_
  ·intro j u hu
   rw [addr_add,cell_of_row w g _ cur 4 (0,0) hg]
   exact hc j u hu
  ·intro v' w' ho' hg' _
   refine hK v' w' ?_ hg'
   unfold Bo
   rw [brow_append,List.length_append]
   exact ho'
theorem Ow.grown {w0 w w' : World} {b : Nat} {M L : List Bool} {v : Value} (h : Ow w0 w b M) (hv : Bo w0.heap.size w v L) (hg : w.grownBy w' v.ownBlock) : Ow w0 w' b M := by
 obtain ⟨g,hW,hF⟩ := h
 have hfr : Fr (fun k => v.ownBlock = some k) w w' := Fr.grown (S := fun k => v.ownBlock = some k) (Fr.refl _ w) hg (fun k hk => .inl hk)
 have hap : ∀ k,At b g k → ¬ v.ownBlock = some k := by
  intro k hk e
  rcases hv.2 with ⟨rfl,_⟩ | ⟨g',cap,cur,rfl,_,hgg,_⟩
  ·simp [Value.ownBlock] at e
  ·simp [Value.ownBlock] at e
   subst e
   exact hW.apart _ cur hgg hk
 refine ⟨g,hW.keep hfr (hap b (.inl rfl)) (fun k hk => hap k (.inr hk.symm)),hF.fresh hfr (fun k hk => (World.ownsRow.lt hv k hk).1)⟩
def wd (k j : Nat) : Nat := wid (lo k j) (hi k j)
def bsum (k : Nat) : Nat → Nat
 | 0 => 0
 | n + 1 => bsum k n + wd k n
def bitsK (k : Nat) : Nat := bsum k (cnt k)
theorem rng_ok (k j : Nat) (h : j < cnt k) : -524288 ≤ lo k j ∧ lo k j ≤ 1 ∧ 7 ≤ hi k j ∧ hi k j ≤ 524287 := by
 rcases pairs k j h with ⟨rfl,rfl | rfl⟩ | ⟨rfl,rfl | rfl⟩ | ⟨rfl,rfl⟩ | ⟨rfl,rfl | rfl | rfl⟩ | ⟨rfl,rfl | rfl | rfl⟩ | ⟨rfl,rfl | rfl | rfl⟩ <;> decide
theorem wd_le (k j : Nat) (h : j < cnt k) : 3 ≤ wd k j ∧ wd k j ≤ 20 := by
 rcases pairs k j h with ⟨rfl,rfl | rfl⟩ | ⟨rfl,rfl | rfl⟩ | ⟨rfl,rfl⟩ | ⟨rfl,rfl | rfl | rfl⟩ | ⟨rfl,rfl | rfl | rfl⟩ | ⟨rfl,rfl | rfl | rfl⟩ <;> decide +kernel
theorem bsum_le (k n : Nat) (h : n ≤ cnt k) : bsum k n ≤ 20 * n := by
 induction n with
 | zero => simp [bsum]
 | succ n ih =>
  have := ih (by omega)
  have := wd_le k n (by omega)
  simp only [bsum]; omega
set_option maxRecDepth 100000 in
theorem bits_any (w : World) (ht : Tab w) (k : Nat) (hk : k < 256) :
  Calls Tryz.prog 204 #[.int .u8 (k : Int)] w fun e w' => e = .returned (.int .i64 ((bitsK k : Nat) : Int)) ∧ Fr Nobody w w' := by
 have H : Hid (Tab w) := ht
 clear ht
 have hc := cnt_le k
 obtain ⟨c,ec⟩ : ∃ c,cnt k = c := ⟨_,rfl⟩
 have EC : Hid (cnt k = c) := ec
 rw [ec] at hc
 clear ec
 have EB : Hid (bitsK k = bsum k c) := by show _ = _; rw [bitsK,EC.out]
 go_enter Tryz.func204,Tryz.ntmps204
 go_wp2_with fail
 refine (count_any w H.out k hk).mono ?_
 rintro e w' ⟨rfl,rfl⟩
 rw [EC.out]
 go_wp2
 go_loopw [3,7] (fun a b wr => ∃ j : Nat,j ≤ c ∧ b = .int .i64 j ∧ a = .int .i64 (bsum k j : Nat) ∧ Fr Nobody w' wr) (fun _ b _ => c - (intOf b).toNat)
 case atStart => exact ⟨0,by omega,rfl,rfl,Fr.refl _ _⟩
 case round =>
  obtain ⟨j,hj,rfl,rfl,hf⟩ := hrel
  have HF : Hid (Fr Nobody w' wr) := hf
  clear hf
  by_cases hlt : j < c
  ·have hjc : j < cnt k := by rw [EC.out]; exact hlt
   obtain ⟨l0,l1,l2,l3⟩ := rng_ok k j hjc
   have h6 : k < 6 := by
    rcases Nat.lt_or_ge k 6 with h | h
    ·exact h
    ·rw [cnt_out k h] at hjc; omega
   have hx := (H.out.quiet HF.out).lo k j h6 (by omega)
   have hy := (H.out.quiet HF.out).hi k j h6 (by omega)
   have hb := bsum_le k j (by omega)
   have HW : Hid (∀ w,Calls Tryz.prog 165 #[.int .i64 (lo k j),.int .i64 (hi k j)] w fun e w' => e = .returned (.int .i64 (wd k j : Nat)) ∧ w' = w) := fun w => width_any (lo k j) (hi k j) w (by omega) (by omega) (by omega) (by omega)
   have hw := wd_le k j hjc
   have HS : Hid (bsum k (j + 1) = bsum k j + wd k j) := rfl
   generalize lo k j = x at *
   generalize hi k j = y at *
   generalize wd k j = z at *
   generalize bsum k j = s at *
   clear hjc
   go_wp2
   go_quiet (refine Calls.quiet_of_same (HW.out _))
   have HF2 : Hid (Fr Nobody w' (wr.drewN nq)) := HF.out.drewN nq
   go_wp2
   go_roundw
   case rel => exact ⟨j + 1,by omega,by go_num,by rw [HS.out]; go_num,HF2.out⟩
   case measure => simp [intOf]; omega
  ·have e : j = c := by omega
   subst e
   go_wp2
   go_ret
   exact ⟨by rw [EB.out]; rfl,HF.out⟩
def stray (k : Nat) (F : Nat → Int) : Bool := (List.range 3).any fun j => decide (cnt k ≤ j) && decide (F j ≠ 0)
def outside (k : Nat) (F : Nat → Int) : Bool := (List.range (cnt k)).any fun j => decide (F j < lo k j) || decide (hi k j < F j)
theorem stray_true (k j : Nat) (F : Nat → Int) (h1 : cnt k ≤ j) (h2 : j < 3) (h3 : F j ≠ 0) : stray k F = true := by
 unfold stray; rw [List.any_eq_true]; exact ⟨j,by simpa using h2,by simp [h1,h3]⟩
theorem stray_false (k : Nat) (F : Nat → Int) (h : ∀ j,cnt k ≤ j → j < 3 → F j = 0) : stray k F = false := by
 unfold stray; rw [List.any_eq_false]; intro j hj
 have hj' : j < 3 := by simpa using hj
 by_cases hc : cnt k ≤ j
 ·simp [h j hc hj']
 ·simp [hc]
theorem outside_true (k j : Nat) (F : Nat → Int) (h1 : j < cnt k) (h3 : F j < lo k j ∨ hi k j < F j) : outside k F = true := by
 unfold outside; rw [List.any_eq_true]; refine ⟨j,by simpa using h1,?_⟩
 rcases h3 with h | h <;> simp [h]
theorem outside_false (k : Nat) (F : Nat → Int) (h : ∀ j,j < cnt k → lo k j ≤ F j ∧ F j ≤ hi k j) : outside k F = false := by
 unfold outside; rw [List.any_eq_false]; intro j hj
 have hj' : j < cnt k := by simpa using hj
 have := h j hj'
 simp; omega
theorem outside_no (k j : Nat) (F : Nat → Int) (h : outside k F = false) (hj : j < cnt k) : lo k j ≤ F j ∧ F j ≤ hi k j := by
 constructor
 ·apply Int.not_lt.1; intro hh; rw [outside_true k j F hj (.inl hh)] at h; cases h
 ·apply Int.not_lt.1; intro hh; rw [outside_true k j F hj (.inr hh)] at h; cases h
theorem stray_no (k j : Nat) (F : Nat → Int) (h : stray k F = false) (hj : cnt k ≤ j) (h3 : j < 3) : F j = 0 := by
 apply Classical.byContradiction; intro hh; rw [stray_true k j F hj h3 hh] at h; cases h
def chk (k : Nat) (F : Nat → Int) : Nat := if 6 ≤ k then 1 else if stray k F then 4 else if outside k F then 5 else 0
def cmp (k : Nat) (F : Nat → Int) : Array Value := #[.int .u8 (k : Int),.int .i32 (F 0),.int .i32 (F 1),.int .i32 (F 2)]
def Box (w : World) (b : Nat) (k : Nat) (F : Nat → Int) : Prop := w.heap[b]? = some (.cells (cmp k F) 63 (0,0))
theorem Box.new (w : World) (k : Nat) (F : Nat → Int) : Box (w.alloc (.cells (cmp k F) 63)) w.heap.size k F := heap_alloc_new w _
theorem Box.quiet {w w' : World} {b k : Nat} {F : Nat → Int} (h : Box w b k F) (hf : Fr Nobody w w') : Box w' b k F :=
 (hf.block b (Array.getElem?_eq_some_iff.1 h).1 id).trans h
theorem Box.kind {w : World} {b k : Nat} {F : Nat → Int} (h : Box w b k F) : w.cell? ⟨b,0,none⟩ = some (.int .u8 (k : Int)) := by
 unfold Box cmp at h; simp [World.cell?,h]
theorem Box.at {w : World} {b k : Nat} {F : Nat → Int} (h : Box w b k F) (j : Nat) (hj : j < 3) : w.cell? ⟨b,1 + j,none⟩ = some (.int .i32 (F j)) := by
 unfold Box cmp at h
 have : j = 0 ∨ j = 1 ∨ j = 2 := by omega
 rcases this with rfl | rfl | rfl <;> simp [World.cell?,h]
theorem hasStray_any (w : World) (ht : Tab w) (k : Nat) (hk : k < 256) (F : Nat → Int) :
  Calls Tryz.prog 177 #[.agg (cmp k F)] w fun e w' => e = .returned (.bool (stray k F)) ∧ Fr Nobody w w' := by
 have H : Hid (Tab w) := ht
 clear ht
 have hc := cnt_le k
 obtain ⟨c,ec⟩ : ∃ c,cnt k = c := ⟨_,rfl⟩
 have EC : Hid (cnt k = c) := ec
 rw [ec] at hc
 clear ec
 have HB : Hid (Box (w.alloc (.cells (cmp k F) 63)) w.heap.size k F) := Box.new w k F
 have HF : Hid (Fr Nobody w (w.alloc (.cells (cmp k F) 63))) := (Fr.refl _ _).alloc _
 unfold cmp
 go_enter Tryz.func177,Tryz.ntmps177
 go_wp2_with fail
 refine (count_any _ (H.out.quiet HF.out) k hk).mono ?_
 rintro e w1 ⟨rfl,rfl⟩
 rw [EC.out]
 go_wp2
 go_loopw [3] (fun a wr => ∃ j : Nat,c ≤ j ∧ j ≤ 3 ∧ a = .int .i64 j ∧ (∀ i,c ≤ i → i < j → F i = 0) ∧ Box wr w.heap.size k F ∧ Fr Nobody w wr) (fun b _ => 3 - (intOf b).toNat)
 case atStart => exact ⟨c,Nat.le_refl _,hc,rfl,fun i h1 h2 => by omega,HB.out,HF.out⟩
 case round =>
  obtain ⟨j,hcj,hj,rfl,hz,hb,hf⟩ := hrel
  have HZ : Hid (∀ i,c ≤ i → i < j → F i = 0) := hz
  have HF1 : Hid (Fr Nobody w wr) := hf
  have HB1 : Hid (Box wr w.heap.size k F) := hb
  clear hf hz hb
  by_cases hlt : j < 3
  ·have hx := HB1.out.at j hlt
   by_cases h0 : F j = 0
   ·have HZ2 : Hid (∀ i,c ≤ i → i < j + 1 → F i = 0) := by
     intro i h1 h2
     by_cases e : i = j
     ·rw [e]; exact h0
     ·exact HZ.out i h1 (by omega)
    rw [h0] at hx
    clear h0
    go_wp2
    go_roundw
    case rel => exact ⟨j + 1,by omega,by omega,by go_num,HZ2.out,HB1.out,HF1.out⟩
    case measure => simp [intOf]; omega
   ·have HS : Hid (stray k F = true) := stray_true k j F (by rw [EC.out]; exact hcj) hlt h0
    have h1 : (F j != 0) = true := by simpa using h0
    generalize F j = x at *
    clear h0
    go_wp2
    go_ret
    exact ⟨by rw [HS.out]; rfl,HF1.out⟩
  ·have HS : Hid (stray k F = false) := stray_false k F (fun i h1 h2 => HZ.out i (by rw [← EC.out]; exact h1) (by omega))
   go_wp2
   go_ret
   exact ⟨by rw [HS.out]; rfl,HF1.out⟩
theorem hasOutside_any (w : World) (ht : Tab w) (k : Nat) (hk : k < 6) (F : Nat → Int) :
  Calls Tryz.prog 178 #[.agg (cmp k F)] w fun e w' => e = .returned (.bool (outside k F)) ∧ Fr Nobody w w' := by
 have H : Hid (Tab w) := ht
 clear ht
 have hc := cnt_le k
 obtain ⟨c,ec⟩ : ∃ c,cnt k = c := ⟨_,rfl⟩
 have EC : Hid (cnt k = c) := ec
 rw [ec] at hc
 clear ec
 have HB : Hid (Box (w.alloc (.cells (cmp k F) 63)) w.heap.size k F) := Box.new w k F
 have HF : Hid (Fr Nobody w (w.alloc (.cells (cmp k F) 63))) := (Fr.refl _ _).alloc _
 unfold cmp
 go_enter Tryz.func178,Tryz.ntmps178
 go_wp2_with fail
 refine (count_any _ (H.out.quiet HF.out) k (by omega)).mono ?_
 rintro e w1 ⟨rfl,rfl⟩
 rw [EC.out]
 go_wp2
 go_loopw [7] (fun a wr => ∃ j : Nat,j ≤ c ∧ a = .int .i64 j ∧ (∀ i,i < j → lo k i ≤ F i ∧ F i ≤ hi k i) ∧ Box wr w.heap.size k F ∧ Fr Nobody w wr) (fun b _ => c - (intOf b).toNat)
 case atStart => exact ⟨0,Nat.zero_le _,rfl,fun i h1 => by omega,HB.out,HF.out⟩
 case round =>
  obtain ⟨j,hj,rfl,hz,hb,hf⟩ := hrel
  have HZ : Hid (∀ i,i < j → lo k i ≤ F i ∧ F i ≤ hi k i) := hz
  have HF1 : Hid (Fr Nobody w wr) := hf
  have HB1 : Hid (Box wr w.heap.size k F) := hb
  clear hf hz hb
  by_cases hlt : j < c
  ·have hx := HB1.out.at j (by omega)
   have hk0 := HB1.out.kind
   have hy := (H.out.quiet HF1.out).lo k j hk (by omega)
   have hz := (H.out.quiet HF1.out).hi k j hk (by omega)
   by_cases h0 : F j < lo k j
   ·have HS : Hid (outside k F = true) := outside_true k j F (by rw [EC.out]; exact hlt) (.inl h0)
    generalize F j = x at *
    generalize lo k j = a at *
    generalize hi k j = b at *
    go_wp2
    go_quiet (fail)
    have HF2 := HF1.out.drewN nq
    have HG : Hid _ := HF2
    clear HF2
    go_wp2
    go_ret
    exact ⟨by rw [HS.out]; rfl,HG.out⟩
   ·by_cases h1 : hi k j < F j
    ·have HS : Hid (outside k F = true) := outside_true k j F (by rw [EC.out]; exact hlt) (.inr h1)
     generalize F j = x at *
     generalize lo k j = a at *
     generalize hi k j = b at *
     have d0 : decide (x < a) = false := by simpa using h0
     have d1 : decide (b < x) = true := by simpa using h1
     clear h0 h1
     go_wp2
     go_quiet (fail)
     have HF2 := HF1.out.drewN nq
     have HG : Hid _ := HF2
     clear HF2
     go_wp2
     go_ret
     exact ⟨by rw [HS.out]; rfl,HG.out⟩
    ·have HZ2 : Hid (∀ i,i < j + 1 → lo k i ≤ F i ∧ F i ≤ hi k i) := by
      intro i h2
      by_cases e : i = j
      ·rw [e]; omega
      ·exact HZ.out i (by omega)
     generalize F j = x at *
     generalize lo k j = a at *
     generalize hi k j = b at *
     have d0 : decide (x < a) = false := by simpa using h0
     have d1 : decide (b < x) = false := by simpa using h1
     clear h0 h1
     go_wp2
     go_quiet (fail)
     have HF2 := HF1.out.drewN nq
     have HG : Hid _ := HF2
     have HB2 : Hid (Box (wr.drewN nq) w.heap.size k F) := HB1.out.quiet ((Fr.refl _ _).drewN nq)
     clear HF2
     go_wp2
     go_roundw
     case rel => exact ⟨j + 1,by omega,by go_num,HZ2.out,HB2.out,HG.out⟩
     case measure => simp [intOf]; omega
  ·have HS : Hid (outside k F = false) := outside_false k F (fun i h1 => HZ.out i (by rw [EC.out] at h1; omega))
   go_wp2
   go_ret
   exact ⟨by rw [HS.out]; rfl,HF1.out⟩
theorem check_any (w : World) (ht : Tab w) (k : Nat) (hk : k < 256) (F : Nat → Int) :
  Calls Tryz.prog 147 #[.agg (cmp k F)] w fun e w' => e = .returned (.int .i64 ((chk k F : Nat) : Int)) ∧ Fr Nobody w w' := by
 have H : Hid (Tab w) := ht
 clear ht
 have HF : Hid (Fr Nobody w (w.alloc (.cells (cmp k F) 63))) := (Fr.refl _ _).alloc _
 unfold chk
 by_cases h6 : 6 ≤ k
 ·rw [if_pos h6]
  unfold cmp at *
  go_enter Tryz.func147,Tryz.ntmps147
  go_wp2
  go_ret
  exact ⟨rfl,HF.out⟩
 ·rw [if_neg h6]
  have HS : Hid (∀ w,Tab w → Calls Tryz.prog 177 #[.agg (cmp k F)] w fun e w' => e = .returned (.bool (stray k F)) ∧ Fr Nobody w w') := fun w h => hasStray_any w h k hk F
  have HO : Hid (∀ w,Tab w → Calls Tryz.prog 178 #[.agg (cmp k F)] w fun e w' => e = .returned (.bool (outside k F)) ∧ Fr Nobody w w') := fun w h => hasOutside_any w h k (by omega) F
  have HB : Hid (Box (w.alloc (.cells (cmp k F) 63)) w.heap.size k F) := Box.new w k F
  cases hs : stray k F with
  | true =>
   rw [hs] at HS
   unfold cmp at *
   rw [if_pos rfl]
   clear hs
   go_enter Tryz.func147,Tryz.ntmps147
   go_wp2_with fail
   refine (HS.out _ (H.out.quiet HF.out)).mono ?_
   rintro e w1 ⟨rfl,hf1⟩
   have HF1 : Hid _ := HF.out.trans hf1
   clear hf1
   go_wp2
   go_ret
   exact ⟨rfl,HF1.out⟩
  | false =>
   rw [hs] at HS
   rw [if_neg (by decide)]
   cases ho : outside k F with
   | true =>
    rw [ho] at HO
    rw [if_pos rfl]
    clear hs ho
    unfold cmp at *
    go_enter Tryz.func147,Tryz.ntmps147
    go_wp2_with fail
    refine (HS.out _ (H.out.quiet HF.out)).mono ?_
    rintro e w1 ⟨rfl,hf1⟩
    have HF1 : Hid _ := HF.out.trans hf1
    have hb1 := HB.out.quiet hf1
    have hc0 := hb1.kind
    have hc1 := hb1.at 0 (by decide)
    have hc2 := hb1.at 1 (by decide)
    have hc3 := hb1.at 2 (by decide)
    clear hf1 hb1
    go_wp2_with fail
    refine (HO.out _ (H.out.quiet HF1.out)).mono ?_
    rintro e w2 ⟨rfl,hf2⟩
    have HF2 : Hid _ := HF1.out.trans hf2
    clear hf2
    go_wp2
    go_ret
    exact ⟨rfl,HF2.out⟩
   | false =>
    rw [ho] at HO
    rw [if_neg (by decide)]
    clear hs ho
    unfold cmp at *
    go_enter Tryz.func147,Tryz.ntmps147
    go_wp2_with fail
    refine (HS.out _ (H.out.quiet HF.out)).mono ?_
    rintro e w1 ⟨rfl,hf1⟩
    have HF1 : Hid _ := HF.out.trans hf1
    have hb1 := HB.out.quiet hf1
    have hc0 := hb1.kind
    have hc1 := hb1.at 0 (by decide)
    have hc2 := hb1.at 1 (by decide)
    have hc3 := hb1.at 2 (by decide)
    clear hf1 hb1
    go_wp2_with fail
    refine (HO.out _ (H.out.quiet HF1.out)).mono ?_
    rintro e w2 ⟨rfl,hf2⟩
    have HF2 : Hid _ := HF1.out.trans hf2
    clear hf2
    go_wp2
    go_ret
    exact ⟨rfl,HF2.out⟩
end Go.Proofs.YtgifeckbflkkpaaGreatDoor
