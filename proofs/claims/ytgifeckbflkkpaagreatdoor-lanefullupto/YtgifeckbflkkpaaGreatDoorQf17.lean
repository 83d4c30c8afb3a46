/- The document's Seal and Open. -/
import Derived.Test.YtgifeckbflkkpaaGreatDoorQf16
import Derived.Test.YtgifeckbflkkpaaGreatDoorQf01
import Derived.Deep.SlicePairs
import Derived.ProofKit
import Derived.OpenShut
import Derived.BigRegion
import Derived.BigQuiet
import Derived.Deep.QuietTactic
import Derived.Deep.RegionLaw
import Derived.Laws.CopyRow
namespace Go.Proofs.YtgifeckbflkkpaaGreatDoor
open Go.RowKit
set_option linter.unusedVariables false
set_option maxHeartbeats 1000000
theorem cell_le4 (w : World) (t : TypeId) (b0 b1 b2 b3 : Nat) : ∀ j u,(vrow [b0,b1,b2,b3])[j]? = some u → (w.alloc (.cells #[.int .u8 (b0 : Int),.int .u8 (b1 : Int),.int .u8 (b2 : Int),.int .u8 (b3 : Int)] t)).cell? ((⟨w.heap.size,0,none⟩ : Addr).add j) = some u := by
 intro j u hu
 rw [addr_add,Nat.zero_add,cell_of_row _ _ _ _ _ _ (heap_alloc_new w _)]
 have e : (#[Value.int .u8 (b0 : Int),.int .u8 (b1 : Int),.int .u8 (b2 : Int),.int .u8 (b3 : Int)] : Array Value) = (vrow [b0,b1,b2,b3]).toArray := rfl
 rw [e,List.getElem?_toArray,hu]
set_option maxRecDepth 100000 in
theorem rseal_ok (w : World) (ao : Option Addr) (cap len : Nat) (P : List Nat) (h : In w ao len cap P) (hL : len ≤ 4096) :
  Calls Tryz.prog 18 #[.slice ao len cap] w fun e w' => ∃ g cp,e = .returned (.tuple #[.slice (some ⟨g,0,none⟩) (len + 4) cp,.int .i64 0]) ∧ w'.ownsRow w.heap.size 5 1 (.slice (some ⟨g,0,none⟩) (len + 4) cp) (len + 4) (vrow (frm P)) ∧ Fr Nobody w w' := by
 obtain ⟨i0,hi,hz0,hz1,hz2⟩ := info_parts Tryz.infoB
 have HI : Hid (In w ao len cap P) := h
 clear h
 go_enter Tryz.func18,Tryz.ntmps18
 go_wp2_with fail
 refine (rsum_any w ao cap len (8 * len) P HI.out (by omega) rfl).mono ?_
 rintro e w1 ⟨rfl,hf1⟩
 have HF : Hid _ := hf1
 have hc := crc_lt P
 have HC : Hid (frm P = P ++ le4 (crc P)) := rfl
 clear hf1
 generalize crc P = c at *
 obtain ⟨b0,e0⟩ : ∃ b : Nat,(c : Int) % 256 = (b : Int) := ⟨c % 256,by omega⟩
 obtain ⟨b1,e1⟩ : ∃ b : Nat,(c : Int) / 256 % 256 = (b : Int) := ⟨c / 256 % 256,by omega⟩
 obtain ⟨b2,e2⟩ : ∃ b : Nat,(c : Int) / 65536 % 256 = (b : Int) := ⟨c / 65536 % 256,by omega⟩
 obtain ⟨b3,e3⟩ : ∃ b : Nat,(c : Int) / 16777216 = (b : Int) := ⟨c / 16777216,by omega⟩
 have HB : Hid (le4 c = [b0,b1,b2,b3]) := by
  show _ = _
  unfold le4
  rw [show c % 256 = b0 by omega,show c / 256 % 256 = b1 by omega,show c / 65536 % 256 = b2 by omega,show c / 16777216 % 256 = b3 by omega]
 have H1 : Hid (In w1 ao len cap P) := HI.out.quiet HF.out
 go_wp2_with (at_builtin; refine copy_bytes rfl _ _ rfl ao len cap P H1.out.src H1.out.eqn (by omega) rfl rfl ?_)
 intro v2 w2 ho2 hf2
 have H2 : Hid (w2.ownsRow w.heap.size 5 1 v2 len (vrow P) ∧ Fr Nobody w w2) := ⟨row_low ho2 HF.out.size,HF.out.trans hf2⟩
 have hs2 := H2.out.2.size
 clear ho2 hf2
 go_wp2_with (at_builtin; refine wpList_append_own _ rfl _ _ 22 rfl w.heap.size 5 i0 (.int .u8 0) 1 1 Tryz.underlying22 hi hz0 hz1 hz2 rfl (by decide) _ _ _ rfl (H2.out.1.alloc _) ⟨w2.heap.size,0,none⟩ 4 4 (vrow [b0,b1,b2,b3]) rfl rfl (cell_le4 _ _ _ _ _ _) (one_vrow _) (by unfold maxLen; omega) (by omega) (by simp; omega) ?_)
 intro v3 w3 ho3 hg3 _
 obtain ⟨g,cp,hv3,hg⟩ := row_shape ho3 (by omega)
 subst hv3
 have H3 : Hid (w3.ownsRow w.heap.size 5 1 (.slice (some ⟨g,0,none⟩) (len + 4) cp) (len + 4) (vrow (frm P)) ∧ Fr Nobody w w3) := by
  refine ⟨?_,(H2.out.2.alloc _).grown hg3 (fun q hq => .inr (H2.out.1.lt q hq).1)⟩
  rw [HC.out,HB.out,vrow_append]; exact ho3
 clear ho3 hg3
 go_wp2
 go_ret2
 exact ⟨g,cp,rfl,H3.out⟩
theorem frm_opens (R : List Nat) (m : Nat) (h : R.length = m) : bnum ((frm R).drop m) = crc ((frm R).take m) ∧ (frm R).take m = R := by
 unfold frm
 subst h
 rw [List.drop_left,List.take_left]
 exact ⟨bnum_le4 _ (crc_lt R),rfl⟩
theorem bnum_inj (l m : List Nat) (hl : ∀ x ∈ l,x < 256) (hm : ∀ x ∈ m,x < 256) (hlen : l.length = m.length) (h : bnum l = bnum m) : l = m := by
 induction l generalizing m with
 | nil => exact (List.eq_nil_of_length_eq_zero hlen.symm).symm
 | cons a l ih =>
  cases m with
  | nil => simp at hlen
  | cons b m =>
   have ha := hl a (by simp)
   have hb := hm b (by simp)
   simp only [bnum] at h
   have h1 : a = b := by omega
   have h2 := ih m (fun x hx => hl x (by simp [hx])) (fun x hx => hm x (by simp [hx])) (by simpa using hlen) (by omega)
   rw [h1,h2]
theorem frm_iff (P : List Nat) (d : Nat) (hlen : P.length = d + 4) (hb : ∀ x ∈ P,x < 256) : frm (P.take d) = P ↔ bnum (P.drop d) = crc (P.take d) := by
 have hl : (P.take d).length = d := by rw [List.length_take]; omega
 constructor
 ·intro h
  have h2 : P.drop d = le4 (crc (P.take d)) := by
   have h3 := congrArg (List.drop d) h
   unfold frm at h3
   rw [List.drop_left' hl] at h3
   exact h3.symm
  rw [h2]
  exact bnum_le4 _ (crc_lt _)
 ·intro h
  have h2 : le4 (crc (P.take d)) = P.drop d := by
   refine bnum_inj _ _ (le4_byte _) (fun x hx => hb x (List.mem_of_mem_drop hx)) ?_ (by rw [bnum_le4 _ (crc_lt _),h])
   rw [List.length_drop,hlen]; simp [le4]
  unfold frm
  rw [h2,List.take_append_drop]
set_option maxRecDepth 100000 in
theorem ropen_ok (w : World) (ao : Option Addr) (cap d : Nat) (P : List Nat) (h : In w ao (d + 4) cap P) (hL : d ≤ 4096) (heq : bnum (P.drop d) = crc (P.take d)) :
  Calls Tryz.prog 35 #[.slice ao (d + 4) cap] w fun e w' => ∃ v',e = .returned (.tuple #[v',.int .i64 0]) ∧ w'.ownsRow w.heap.size 5 1 v' d (vrow (P.take d)) ∧ Fr Nobody w w' := by
 obtain ⟨g,o,rfl⟩ := h.some' (by omega)
 have HI : Hid (In w (some ⟨g,o,none⟩) (d + 4) cap P) := h
 have HN : Hid (frm (P.take d) = P) := (frm_iff P d h.eqn h.byt).2 heq
 have HR : Hid (In w (some ⟨g,o,none⟩) d cap (P.take d)) := h.cut d (by omega)
 have hle := h.le
 clear h heq
 go_enter Tryz.func35,Tryz.ntmps35
 go_wp2_with fail
 refine (rseal_ok w _ cap d (P.take d) HR.out hL).mono ?_
 rintro e w1 ⟨g1,cp1,rfl,ho1,hf1⟩
 have H1 : Hid (In w1 (some ⟨g1,0,none⟩) (d + 4) cp1 P ∧ Fr Nobody w w1) := by
  refine ⟨?_,hf1⟩
  have := In.of_row ho1 (by rw [length_frm,HR.out.eqn]) (frm_byte _ HR.out.byt)
  rw [HN.out] at this
  exact this
 clear ho1 hf1
 go_wp2_with fail
 refine (same_any w1 _ _ P H1.out.1.src (HI.out.quiet H1.out.2).src).mono ?_
 rintro e w2 ⟨rfl,rfl⟩
 have HR2 : Hid (In w2 (some ⟨g,o,none⟩) d cap (P.take d)) := HR.out.quiet H1.out.2
 go_wp2_with (at_builtin; refine copy_bytes rfl _ _ rfl _ d cap (P.take d) HR2.out.src HR2.out.eqn (by omega) rfl rfl ?_)
 intro v3 w3 ho3 hf3
 have H3 : Hid (w3.ownsRow w.heap.size 5 1 v3 d (vrow (P.take d)) ∧ Fr Nobody w w3) := ⟨row_low ho3 H1.out.2.size,H1.out.2.trans hf3⟩
 clear ho3 hf3
 go_wp2
 go_ret2
 exact ⟨v3,rfl,H3.out⟩
end Go.Proofs.YtgifeckbflkkpaaGreatDoor
namespace Go.Proofs.YtgifeckbflkkpaaGreatDoor
open Go.RowKit Go.ChangeShapes Go.WideShapes Go.Deep
set_option linter.unusedVariables false
set_option maxHeartbeats 1000000
def RowsAt {α : Type} (G : List Value → α → Prop) (s : Nat) (w : World) (ao : Option Addr) (Q : List α) : Prop :=
 Q = [] ∨ ∃ g o,ao = some ⟨g,o,none⟩ ∧ ∀ (j : Nat) q,Q[j]? = some q → ∃ cs,G cs q ∧ cs.length = s ∧ ∀ r,r < s → w.cell? ⟨g,o + j * s + r,none⟩ = cs[r]?
theorem RowsAt.quiet {α : Type} {G : List Value → α → Prop} {s : Nat} {w w' : World} {ao : Option Addr} {Q : List α} (h : RowsAt G s w ao Q) (hf : Fr Nobody w w') : RowsAt G s w' ao Q := by
 rcases h with h | ⟨g,o,ha,hc⟩
 ·exact .inl h
 ·refine .inr ⟨g,o,ha,fun j q hq => ?_⟩
  obtain ⟨cs,h1,h2,h3⟩ := hc j q hq
  refine ⟨cs,h1,h2,fun r hr => ?_⟩
  have h4 := h3 r hr
  have h5 : cs[r]? = some cs[r] := List.getElem?_eq_getElem (by omega)
  rw [h5] at h4 ⊢
  exact (hf.cell (p := ⟨g,o + j * s + r,none⟩) (World.block_lt_of_cell? w _ h4) id).trans h4
end Go.Proofs.YtgifeckbflkkpaaGreatDoor
namespace Go.Proofs.YtgifeckbflkkpaaGreatDoor
open Go.RowKit
set_option linter.unusedVariables false
set_option maxHeartbeats 1000000
section
variable {α : Type}
def cat (c : α → List Value) (L : List α) : List Value := L.flatMap c
theorem cat_append (c : α → List Value) (L M : List α) : cat c (L ++ M) = cat c L ++ cat c M := by simp [cat]
theorem cat_drop (c : α → List Value) (s : Nat) (hs : ∀ x,(c x).length = s) (L : List α) (n : Nat) : (cat c L).drop (n * s) = cat c (L.drop n) := by
 induction n generalizing L with
 | zero => simp
 | succ n ih =>
  cases L with
  | nil => simp [cat]
  | cons x L =>
   rw [List.drop_succ_cons,← ih L,cat,List.flatMap_cons,Nat.succ_mul,Nat.add_comm,← List.drop_drop]
   rw [List.drop_left' (hs x)]; rfl
theorem cat_at (c : α → List Value) (s : Nat) (hs : ∀ x,(c x).length = s) (L : List α) (i r : Nat) (x : α) (hx : L[i]? = some x) (hr : r < s) : (cat c L)[i * s + r]? = (c x)[r]? := by
 induction i generalizing L with
 | zero =>
  cases L with
  | nil => simp at hx
  | cons y L =>
   simp at hx
   subst hx
   rw [cat,List.flatMap_cons,Nat.zero_mul,Nat.zero_add,List.getElem?_append_left (by rw [hs]; exact hr)]
 | succ i ih =>
  cases L with
  | nil => simp at hx
  | cons y L =>
   rw [cat,List.flatMap_cons,List.getElem?_append_right (by rw [hs,Nat.succ_mul]; omega),hs]
   have := ih L (by simpa using hx)
   rw [cat] at this
   rw [← this]; congr 1; rw [Nat.succ_mul]; omega
theorem one_cat (c : α → List Value) (h : ∀ x,∀ u ∈ c x,u.oneCell' = true) (L : List α) : ∀ u ∈ cat c L,u.oneCell' = true := by
 intro u hu
 rw [cat,List.mem_flatMap] at hu
 obtain ⟨x,_,hx⟩ := hu
 exact h x u hx
end
theorem step_run {P : Program} {ops : Array Oper} {o : Oper} {a : Act} {w : World} {K : Act → World → Prop} {Q : Exit → Act → World → Prop} {E : Prop}
  (hg : o.guard = none) (s x : Operand) (t t' ty : TypeId) (hop : o.op = Op.call { callee := Callee.builtin Builtin.append,args := #[s,x],argTypes := #[t,t'] }) (hty : o.type = ty)
  (vs vx v' : Value) (w' : World) (hs : a.eval s = vs) (hx : a.eval x = vx) (hrun : (Builtin.append_ #[t,t'] ty #[vs,vx]).run P w = .ok v' w')
  (hK : K (a.put o.dst v') w') :
  if Region.wanted o (yielded ops a.tmps) = true then Oper.wp P o a w K Q else E := by
 have hw : Region.wanted o (yielded ops a.tmps) = true := by simp [Region.wanted,hg]
 rw [if_pos hw]
 subst hty
 unfold Oper.wp
 simp [execOp,hop,resolve,invoke,builtin,hs,hx,hrun,Result.andThen]
 exact hK
theorem Own.moved {P : Program} {w0 w : World} {l : List Thing} {e : TypeId} {s len cap g : Nat} {xs : List Value} (h : Own w0 w (Row e s (.slice (some ⟨g,0,none⟩) len cap) len xs :: l)) (t ty : TypeId) (i : TypeInfo) (ht : P.underlying t = some (.slice e)) (hi : P.info? e = some i) (hsize : i.size = s)
  (h1 : ∀ u ∈ xs,u.oneCell' = true) (n : Nat) (hn : n ≤ len) (A : Addr) (hA : A = if cap = n then ⟨g,0,none⟩ else ⟨g,n * s,none⟩) :
  ∃ w',(Builtin.append_ #[t,t] ty #[.slice (some ⟨g,0,none⟩) 0 cap,.slice (some A) (len - n) (cap - n)]).run P w = .ok (.slice (some ⟨g,0,none⟩) (len - n) cap) w' ∧
   Own w0 w' (Row e s (.slice (some ⟨g,0,none⟩) (len - n) cap) (len - n) (xs.drop (n * s)) :: l) := by
 have hr := h.row
 have hcap := row_cap hr
 have h0 := row_cut hr (m := 0) (Nat.zero_le _)
 have hl : (xs.drop (n * s)).length = (len - n) * s := by rw [List.length_drop,hr.1,Nat.sub_mul]
 obtain ⟨w',r1,r2,r3⟩ := run_append_fits (P := P) w 0 t ty e i s ht hi hsize g 0 cap _ h0 A (len - n) (cap - n) (xs.drop (n * s)) hl (by
  intro j u hu
  rw [List.getElem?_drop] at hu
  have hj := (List.getElem?_eq_some_iff.1 hu).1
  have hne : cap ≠ n := by
   intro q
   have : len = n := by omega
   rw [hr.1,this] at hj; omega
  rw [hA,if_neg hne,addr_add,hr.cellAt _ (by rw [← hr.1]; exact hj)]
  exact hu) (fun u hu => h1 u (List.mem_of_mem_drop hu)) (by omega)
 rw [Nat.zero_add] at r1 r2
 refine ⟨w',r1,h.grow (by simpa using r2) r3 ?_⟩
 intro k hk
 left; exact hk
theorem Own.cleared {P : Program} {w0 w : World} {l : List Thing} {e : TypeId} {s m cap g : Nat} {xs : List Value} (h : Own w0 w (Row e s (.slice (some ⟨g,0,none⟩) m cap) m xs :: l)) (t : TypeId) (z : Value) (ht : P.underlying t = some (.slice e)) (hz : ∀ w,(zeroValue e).run P w = .ok z w) (hzs : z.cells.size = s) (h1 : ∀ u ∈ z.cells.toList,u.oneCell' = true) (hs : 0 < s)
  (n c : Nat) (hn : 0 < n) (hmn : m + n ≤ cap) :
  ∃ w',(∀ ty,(Builtin.clear_ #[t] ty #[.slice (some ⟨g,m * s,none⟩) n c]).run P w = .ok (.tuple #[]) w') ∧ Own w0 w' (Row e s (.slice (some ⟨g,0,none⟩) m cap) m xs :: l) := by
 have hr := h.row
 rcases hr.2 with ⟨h0,_⟩ | ⟨g',cap',cur,hv,hb,hgg,k1,k2,k3,k4⟩
 ·cases h0
 ·cases hv
  have hlen : (Builtin.zeroCells z.cells n).toList.length = n * s := by rw [Array.length_toList,size_zeroCells,hzs]
  have hle : m * s + (Builtin.zeroCells z.cells n).toList.length ≤ cur.size := by
   rw [hlen,k3,← Nat.add_mul]; exact Nat.mul_le_mul_right _ hmn
  have hone : ∀ v ∈ (Builtin.zeroCells z.cells n).toList,v.oneCell' = true := by
   intro v hv
   rw [Array.mem_toList_iff,Builtin.zeroCells,Array.mem_map] at hv
   obtain ⟨j,hj,rfl⟩ := hv
   apply h1
   have hlt : j % z.cells.size < z.cells.size := Nat.mod_lt _ (by omega)
   rw [getElem!_pos z.cells _ hlt,Array.mem_toList_iff]
   exact Array.getElem_mem hlt
  have hst := run_storeCells_at (P := P) g (m * s) e (Builtin.zeroCells z.cells n).toList 0 cur w hgg (by simpa using hle) hone
  simp only [Nat.add_zero] at hst
  obtain ⟨R,hR⟩ : ∃ R : Array Value,R = (cur.toList.take (m * s) ++ (Builtin.zeroCells z.cells n).toList ++ cur.toList.drop (m * s + (Builtin.zeroCells z.cells n).toList.length)).toArray := ⟨_,rfl⟩
  rw [← hR] at hst
  have hR1 : R.size = cap * s := by
   rw [hR,← k3]
   simp only [List.size_toArray,List.length_append,List.length_take,List.length_drop,Array.length_toList] at hle ⊢
   omega
  have hR2 : R.toList.take (m * s) = xs := by
   rw [hR]
   show ((cur.toList.take (m * s) ++ _) ++ _).take (m * s) = xs
   rw [List.append_assoc,List.take_left' (by rw [List.length_take,Array.length_toList,k3]; exact Nat.min_eq_left (Nat.mul_le_mul_right _ k1)),← k4]
  refine ⟨w.setRow g R,fun ty => ?_,h.grow (w' := w.setRow g R) (m := m) (ys := xs) ⟨hr.1,.inr ⟨g,cap,R,rfl,hb,setRow_heap w g cur R e (0,0) hgg,k1,k2,hR1,hR2⟩⟩ ⟨rfl,rfl,rfl,by simp [World.setRow],fun k _ hk => setRow_other w g k R (fun e => hk (by simp [e,Value.ownBlock]))⟩ (fun k hk => .inl hk)⟩
  obtain ⟨q,rfl⟩ : ∃ q,n = q + 1 := ⟨n - 1,by omega⟩
  simp only [Builtin.clear_]
  simp [run_underlying ht,hz,hst]
section
variable {α : Type}
def below (t : Nat) (L : List (Nat × α)) : Nat := (L.takeWhile (fun e => decide (e.1 < t))).length
theorem below_le (t : Nat) (L : List (Nat × α)) : below t L ≤ L.length := (List.takeWhile_prefix _).length_le
theorem below_lt (t : Nat) (L : List (Nat × α)) (i : Nat) (e : Nat × α) (hi : i < below t L) (he : L[i]? = some e) : e.1 < t := by
 induction L generalizing i with
 | nil => simp at he
 | cons x L ih =>
  unfold below at hi
  rw [List.takeWhile_cons] at hi
  by_cases c : x.1 < t
  ·cases i with
   | zero => simp at he; subst he; exact c
   | succ i => simp [c] at hi; exact ih i (by unfold below; exact hi) (by simpa using he)
  ·simp [c] at hi
theorem below_at (t : Nat) (L : List (Nat × α)) (e : Nat × α) (he : L[below t L]? = some e) : t ≤ e.1 := by
 induction L with
 | nil => simp at he
 | cons x L ih =>
  unfold below at he
  rw [List.takeWhile_cons] at he
  by_cases c : x.1 < t
  ·simp [c] at he; exact ih (by unfold below; exact he)
  ·simp [c] at he; subst he; omega
def rput (k : Nat) (L : List (Nat × α)) (t : Nat) (v : α) : Int × List (Nat × α) :=
 if ∃ e,L.getLast? = some e ∧ t ≤ e.1 then (12,L) else (0,if k < L.length + 1 then (L ++ [(t,v)]).drop 1 else L ++ [(t,v)])
def rget (L : List (Nat × α)) (t : Nat) : Option α := match L[below t L]? with
 | some e => if e.1 = t then some e.2 else none
 | none => none
structure ROk (k : Nat) (L : List (Nat × α)) : Prop where
 k1 : 1 ≤ k
 k2 : k ≤ 64
 le : L.length ≤ k
 inc : L.Pairwise (fun a b => a.1 < b.1)
 lt : ∀ e ∈ L,e.1 < 4294967296
theorem ROk.nil {k : Nat} (h1 : 1 ≤ k) (h2 : k ≤ 64) : ROk k ([] : List (Nat × α)) := ⟨h1,h2,by simp,by simp,by simp⟩
theorem ROk.drop {k : Nat} {L : List (Nat × α)} (h : ROk k L) (n : Nat) : ROk k (L.drop n) :=
 ⟨h.k1,h.k2,by rw [List.length_drop]; have := h.le; omega,h.inc.sublist (List.drop_sublist _ _),fun e he => h.lt e (List.mem_of_mem_drop he)⟩
end
def View (s : Nat) (v : Value) (n : Nat) (xs : List Value) : Thing where
 is := fun w A => xs.length = n * s ∧ ∃ ao cap,v = .slice ao n cap ∧ n ≤ cap ∧ cap ≤ maxLen ∧ ((n = 0 ∧ ∀ k,¬ A k) ∨ (0 < n * s ∧ ∃ g o,ao = some ⟨g,o,none⟩ ∧ (∀ k,A k ↔ k = g) ∧ ∀ j u,xs[j]? = some u → w.cell? ⟨g,o + j,none⟩ = some u))
 lt := by
  rintro w A k ⟨hl,ao,cap,rfl,_,_,⟨_,h⟩ | ⟨h0,g,o,_,hA,hc⟩⟩ a
  ·exact (h k a).elim
  ·rw [(hA k).1 a]
   have hx : xs[0]? = some xs[0] := List.getElem?_eq_getElem (by omega)
   exact World.block_lt_of_cell? w _ (hc 0 _ hx)
 keep := by
  rintro w w' A B ⟨hl,ao,cap,rfl,h1,h2,⟨h3,h⟩ | ⟨h0,g,o,ha,hA,hc⟩⟩ hf hn
  ·exact ⟨hl,ao,cap,rfl,h1,h2,.inl ⟨h3,h⟩⟩
  ·refine ⟨hl,ao,cap,rfl,h1,h2,.inr ⟨h0,g,o,ha,hA,fun j u hu => ?_⟩⟩
   have h4 := hc j u hu
   exact (hf.cell (p := ⟨g,o + j,none⟩) (World.block_lt_of_cell? w _ h4) (hn g ((hA g).2 rfl))).trans h4
section
variable {w0 w w' : World} {l : List Thing} {t e : TypeId} {s n m cap g : Nat} {v u : Value} {xs ys : List Value}
theorem Own.view (h : Own w0 w (Row e s v n xs :: l)) (hs : 0 < s) : Own w0 w (View s v n xs :: l) := by
 obtain ⟨A,⟨B,C,hB,hC,hbc,hA⟩,hF,hlo⟩ := h
 have hr := hB.1
 rcases hr.2 with ⟨rfl,rfl⟩ | ⟨g,cap,cur,rfl,_,hgg,h1,h2,h3,h4⟩
 ·refine ⟨C,⟨fun _ => False,C,⟨hr.1,none,0,rfl,Nat.le_refl _,Nat.zero_le _,.inl ⟨rfl,fun _ h => h⟩⟩,hC,fun _ h => h.elim,fun k => by simp⟩,hF,fun k c => hlo k ((hA k).2 (.inr c))⟩
 ·rcases Nat.eq_zero_or_pos n with h0 | h0
  ·refine ⟨C,⟨fun _ => False,C,⟨hr.1,_,_,rfl,h1,h2,.inl ⟨h0,fun _ h => h⟩⟩,hC,fun _ h => h.elim,fun k => by simp⟩,hF,fun k c => hlo k ((hA k).2 (.inr c))⟩
  ·refine ⟨A,⟨B,C,⟨hr.1,_,_,rfl,h1,h2,.inr ⟨Nat.mul_pos h0 hs,g,0,rfl,fun k => ?_,fun j u hu => ?_⟩⟩,hC,hbc,hA⟩,hF,hlo⟩
   ·rw [hB.2 k]; simp [Value.ownBlock]; exact eq_comm
   ·have hj := (List.getElem?_eq_some_iff.1 hu).1
    rw [Nat.zero_add,hr.cellAt j (by rw [← hr.1]; exact hj)]; exact hu
theorem Own.vcell (h : Own w0 w (View s v n xs :: l)) (hn : 0 < n) : ∃ g o cap,v = .slice (some ⟨g,o,none⟩) n cap ∧ n ≤ cap ∧ cap ≤ maxLen ∧ ∀ j u,xs[j]? = some u → w.cell? ⟨g,o + j,none⟩ = some u := by
 obtain ⟨A,⟨B,C,⟨hl,ao,cap,rfl,h1,h2,⟨h3,_⟩ | ⟨h0,g,o,rfl,hA,hc⟩⟩,_⟩,_⟩ := h
 ·omega
 ·exact ⟨g,o,cap,rfl,h1,h2,hc⟩
theorem Own.litRow (h : Own w0 w l) (cs : Array Value) (e : TypeId) (s n : Nat) (hm : n ≤ maxLen) (hs : cs.size = n * s) : Own w0 (w.alloc (.cells cs e)) (Row e s (.slice (some ⟨w.heap.size,0,none⟩) n n) n cs.toList :: l) :=
 h.new (Row e s (.slice (some ⟨w.heap.size,0,none⟩) n n) n cs.toList) (fun k => k = w.heap.size) ⟨World.ownsRow_lit (base := 0) w cs n (Nat.zero_le _) hm hs,fun k => by simp [Value.ownBlock]; exact eq_comm⟩ ((Fr.refl _ _).alloc _) (fun k hk => by omega)
end
theorem run_append_empty {P : Program} (w : World) (base : Nat) (t ty e : TypeId) (i : TypeInfo) (size : Nat) (ht : P.underlying t = some (.slice e)) (hi : P.info? e = some i)
  (v : Value) (n : Nat) (xs : List Value) (hown : w.ownsRow base e size v n xs) (xa : Option Addr) (c : Nat) :
  (Builtin.append_ #[t,t] ty #[v,.slice xa 0 c]).run P w = .ok v w := by
 rcases hown.2 with ⟨rfl,rfl⟩ | ⟨g,cap,cur,rfl,_,_,hnc,_⟩
 ·cases xa <;> simp [Builtin.append_,run_underlying ht,sizeOf,typeInfo,hi,Builtin.lenOf,Builtin.firstCells,loadCells,loadCellsFrom]
 ·cases xa <;> simp [Builtin.append_,run_underlying ht,sizeOf,typeInfo,hi,Builtin.lenOf,Builtin.firstCells,hnc,storeCells,loadCells,loadCellsFrom]
end Go.Proofs.YtgifeckbflkkpaaGreatDoor
