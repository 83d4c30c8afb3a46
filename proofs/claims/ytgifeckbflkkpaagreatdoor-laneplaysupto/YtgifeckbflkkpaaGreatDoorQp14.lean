/- Seal of package frame. -/
import Derived.Test.YtgifeckbflkkpaaGreatDoorQp13
import Derived.Test.YtgifeckbflkkpaaGreatDoorQp01
import Derived.Deep.SlicePairs
import Derived.ProofKit
import Derived.OpenShut
import Derived.BigRegion
import Derived.BigQuiet
import Derived.Deep.QuietTactic
import Derived.Deep.RegionLaw
import Derived.Laws.CopyRow
namespace Go.Proofs.YtgifeckbflkkpaaGreatDoor
open Go.RowKit
set_option linter.unusedVariables false
set_option maxHeartbeats 1000000
set_option maxRecDepth 100000
def le4 (s : Nat) : List Nat := [s % 256,s / 256 % 256,s / 65536 % 256,s / 16777216 % 256]
theorem le4_byte (s : Nat) : ∀ x ∈ le4 s,x < 256 := by
 intro x hx
 simp only [le4,List.mem_cons,List.not_mem_nil,or_false] at hx
 rcases hx with rfl | rfl | rfl | rfl <;> omega
theorem bnum_le4 (s : Nat) (h : s < 4294967296) : bnum (le4 s) = s := by simp only [le4,bnum]; omega
theorem le4_at (s k : Nat) (hk : k < 4) : (le4 s)[k]? = some (s / 2 ^ (8 * k) % 256) := by
 match k,hk with
 | 0,_ => simp [le4]
 | 1,_ => rfl
 | 2,_ => rfl
 | 3,_ => rfl
 | n + 4,h => exact absurd h (by omega)
theorem seal_long (w : World) (ao : Option Addr) (cap len : Nat) (h : 4096 < len) (hmax : len ≤ maxLen) :
  Calls Tryz.prog 87 #[.slice ao len cap] w fun e w' => e = .returned (.tuple #[.slice none 0 0,.int .i64 3]) ∧ w' = w := by
 unfold maxLen at hmax
 go_enter Tryz.func87,Tryz.ntmps87
 go_wp2
 go_ret2
 exact ⟨rfl,rfl⟩
theorem make_room (n : Nat) (hn : n ≤ 100000) (u : World) : (Instr.makeSlice 22 (.int .i64 0) (.int .i64 (n : Int))).run Tryz.prog u =
   .ok (.slice (some ⟨u.heap.size,0,none⟩) 0 n) (u.alloc (.cells (madeCells #[.int .u8 0] n) 5)) := by
 obtain ⟨i0,hi,hz0,hz1,hz2⟩ := info_parts Tryz.infoB
 have h := run_make (P := Tryz.prog) u 22 5 i0 (.int .u8 0) Tryz.underlying22 hi hz0 .i64 .i64 (0 : Int) (n : Int) (by omega) (by omega) (by rw [hz2]; omega) (by omega)
 simpa [hz1,Value.cells] using h
theorem copy_room {w : World} {ops : Array Oper} {rest : List Oper} {o : Oper} {a : Act} {Q : Exit → Act → World → Prop} (hgd : o.guard = none) (s x : Operand)
  (ho : o.op = .call { callee := .builtin .append,args := #[s,x],argTypes := #[22,22] }) (ao : Option Addr) (m cap n : Nat) (P : List Nat) (h : Src w (.slice ao m cap) P.length (vrow P)) (hm : P.length = m) (hL : n ≤ 100000) (hmn : m ≤ n)
  (hs : a.eval s = .slice (some ⟨w.heap.size,0,none⟩) 0 n) (hx : a.eval x = .slice ao m cap)
  (hK : ∀ v' w',w'.ownsRow w.heap.size 5 1 v' m (vrow P) → Fr Nobody w w' → wpList Tryz.prog ops Q rest (a.put o.dst v') w') :
  wpList Tryz.prog ops Q (o :: rest) a (w.alloc (.cells (madeCells #[.int .u8 0] n) 5)) := by
 obtain ⟨i0,hi,hz0,hz1,hz2⟩ := info_parts Tryz.infoB
 have hown := World.ownsRow_made (e := 5) (size := 1) (base := w.heap.size) w (madeCells #[.int .u8 0] n) n (Nat.le_refl _) (by unfold maxLen; omega) (by rw [size_madeCells,Nat.mul_one])
 have hfr : Fr Nobody w (w.alloc (.cells (madeCells #[.int .u8 0] n) 5)) := (Fr.refl _ w).alloc _
 rcases h with ⟨hv,h0,h00⟩ | ⟨a',cap',hv,hl,hc⟩
 ·have hP0 : P = [] := List.eq_nil_of_length_eq_zero h0
  subst hP0
  subst hm
  rw [hv] at hx
  refine wpList_plain hgd fun K hK' => ?_
  have hr := run_append_owned_none (P := Tryz.prog) (w.alloc (.cells (madeCells #[.int .u8 0] n) 5)) w.heap.size 22 o.type 5 i0 1 Tryz.underlying22 hi _ 0 [] hown
  unfold Oper.wp
  simp [execOp,ho,resolve,invoke,builtin,hs,hx,hr,Result.andThen]
  exact hK' _ _ (hK _ _ hown hfr)
 ·simp only [Value.slice.injEq] at hv
  obtain ⟨rfl,_,rfl⟩ := hv
  refine wpList_append_own (w.alloc (.cells (madeCells #[.int .u8 0] n) 5)) hgd s x 22 ho w.heap.size 5 i0 (.int .u8 0) 1 1 Tryz.underlying22 hi hz0 hz1 hz2 rfl (by decide) _ 0 [] hs hown a' m cap (vrow P) hx (by rw [length_vrow]; omega) (fun j u hu => Lib.cell?_alloc_some _ (hc j u hu)) (one_vrow P) (by unfold maxLen; omega) (by omega) (by simp) ?_
  intro v' w' ho' hg' _
  exact hK v' w' (by simpa using ho') (hfr.grown hg' (by intro k hk; simp [Value.ownBlock] at hk; omega))
def frm (P : List Nat) : List Nat := P ++ le4 (crc P)
theorem length_frm (P : List Nat) : (frm P).length = P.length + 4 := by simp [frm,le4]
theorem frm_byte (P : List Nat) (h : ∀ x ∈ P,x < 256) : ∀ x ∈ frm P,x < 256 := by
 intro x hx
 rcases List.mem_append.1 hx with hx | hx
 ·exact h x hx
 ·exact le4_byte _ x hx
theorem seal_ok (w : World) (ao : Option Addr) (cap len : Nat) (P : List Nat) (h : In w ao len cap P) (hL : len ≤ 4096) (ht : Tabf w) :
  Calls Tryz.prog 87 #[.slice ao len cap] w fun e w' => ∃ g cp,e = .returned (.tuple #[.slice (some ⟨g,0,none⟩) (len + 4) cp,.int .i64 0]) ∧ w'.ownsRow w.heap.size 5 1 (.slice (some ⟨g,0,none⟩) (len + 4) cp) (len + 4) (vrow (frm P)) ∧ Fr Nobody w w' := by
 obtain ⟨i0,hi,hz0,hz1,hz2⟩ := info_parts Tryz.infoB
 have hmk := make_room (len + 4) (by omega)
 have hcast : ((len + 4 : Nat) : Int) = (len : Int) + 4 := by omega
 rw [hcast] at hmk
 have HI : Hid (In w ao len cap P) := h
 have HT : Hid (Tabf w) := ht
 clear h ht hcast
 go_enter Tryz.func87,Tryz.ntmps87
 go_wp2_with (at_builtin; refine copy_room rfl _ _ rfl ao len cap (len + 4) P HI.out.src HI.out.eqn (by omega) (by omega) rfl rfl ?_)
 clear hmk
 intro v1 w1 ho1 hf1
 have H1 : Hid (w1.ownsRow w.heap.size 5 1 v1 len (vrow P) ∧ Fr Nobody w w1) := ⟨ho1,hf1⟩
 clear ho1 hf1
 go_wp2_with fail
 refine (sum_in _ _ _ _ _ (HI.out.quiet H1.out.2) (by omega) (HT.out.quiet H1.out.2)).mono ?_
 rintro e w2 ⟨rfl,rfl⟩
 have hc := crc_lt P
 have HC : Hid (frm P = P ++ le4 (crc P)) := rfl
 generalize crc P = c at *
 go_wp2
 go_loopw [4,18] (fun u cc wr => ∃ k : Nat,k ≤ 4 ∧ cc = .int .i64 k ∧ wr.ownsRow w.heap.size 5 1 u (len + k) (vrow (P ++ (le4 c).take k)) ∧ Fr Nobody w wr) (fun _ cc _ => 4 - (intOf cc).toNat)
 case atStart => exact ⟨0,by omega,rfl,by simpa using H1.out.1,H1.out.2⟩
 case round =>
  obtain ⟨k,hk,rfl,ho,hf⟩ := hrel
  have HO : Hid (wr.ownsRow w.heap.size 5 1 u4 (len + k) (vrow (P ++ (le4 c).take k)) ∧ Fr Nobody w wr) := ⟨ho,hf⟩
  clear ho hf
  by_cases hlt : k < 4
  ·have HV : Hid (vrow (P ++ (le4 c).take k) ++ [.int .u8 ((c : Int) / 2 ^ (8 * k) % 256)] = vrow (P ++ (le4 c).take (k + 1))) := by
    show _ = _
    rw [List.take_add_one,le4_at c k hlt]
    simp [vrow]
   have hsz := HO.out.2.size
   go_wp2_with (at_builtin; refine wpList_append_own _ rfl _ _ 22 rfl w.heap.size 5 i0 (.int .u8 0) 1 1 Tryz.underlying22 hi hz0 hz1 hz2 rfl (by decide) _ _ _ rfl (HO.out.1.alloc _) ⟨wr.heap.size,0,none⟩ 1 1 [.int .u8 ((c : Int) / 2 ^ (8 * k) % 256)] rfl rfl (cell_one_new _ _ _) (one_int _ _) (by unfold maxLen; omega) (by omega) (by simp; omega) ?_)
   intro v2 w3 ho2 hg2 _
   have H3 : Hid (w3.ownsRow w.heap.size 5 1 v2 (len + (k + 1)) (vrow (P ++ (le4 c).take (k + 1))) ∧ Fr Nobody w w3) := by
    refine ⟨?_,(HO.out.2.alloc _).grown hg2 (fun q hq => .inr (HO.out.1.lt q hq).1)⟩
    rw [← HV.out]
    exact ho2
   clear ho2 hg2
   go_wp2
   exact ⟨⟨k + 1,by omega,by go_num,H3.out.1,H3.out.2⟩,by simp [intOf]; omega⟩
  ·have e : k = 4 := by omega
   subst e
   obtain ⟨g,cp,hv,hg⟩ := row_shape HO.out.1 (by omega)
   subst hv
   go_wp2
   go_ret2
   refine ⟨g,cp,rfl,?_,HO.out.2⟩
   have h2 := HO.out.1
   rw [HC.out]
   exact h2
structure Sp (w : World) (B g n cp : Nat) (P : List Nat) : Prop where
 row : w.ownsRow B 5 1 (.slice (some ⟨g,0,none⟩) (n + 1) cp) (n + 1) (vrow (P ++ [165]))
 eqn : P.length = n
 byt : ∀ x ∈ P,x < 256
theorem Sp.quiet {w w' : World} {B g n cp : Nat} {P : List Nat} (h : Sp w B g n cp P) (hf : Fr Nobody w w') : Sp w' B g n cp P :=
 ⟨hf.row h.row (fun _ _ => id),h.eqn,h.byt⟩
theorem Sp.last {w : World} {B g n cp : Nat} {P : List Nat} (h : Sp w B g n cp P) : w.cell? ⟨g,n,none⟩ = some (.int .u8 165) ∧ n + 1 ≤ cp := by
 refine ⟨?_,(row_cap h.row).2.1⟩
 rw [h.row.cellAt n (by omega),getElem?_vrow,List.getElem?_append_right (by rw [h.eqn]; exact Nat.le_refl _),h.eqn,Nat.sub_self]; rfl
theorem cell_le4 (w : World) (t : TypeId) (b0 b1 b2 b3 : Nat) : ∀ j u,(vrow [b0,b1,b2,b3])[j]? = some u → (w.alloc (.cells #[.int .u8 (b0 : Int),.int .u8 (b1 : Int),.int .u8 (b2 : Int),.int .u8 (b3 : Int)] t)).cell? ((⟨w.heap.size,0,none⟩ : Addr).add j) = some u := by
 intro j u hu
 rw [addr_add,Nat.zero_add,cell_of_row _ _ _ _ _ _ (heap_alloc_new w _)]
 have e : (#[Value.int .u8 (b0 : Int),.int .u8 (b1 : Int),.int .u8 (b2 : Int),.int .u8 (b3 : Int)] : Array Value) = (vrow [b0,b1,b2,b3]).toArray := rfl
 rw [e,List.getElem?_toArray,hu]
set_option maxRecDepth 100000 in
theorem rseal_ok (w : World) (ao : Option Addr) (cap len : Nat) (P : List Nat) (h : In w ao len cap P) (hL : len ≤ 4096) :
  Calls Tryz.prog 18 #[.slice ao len cap] w fun e w' => ∃ g cp,e = .returned (.tuple #[.slice (some ⟨g,0,none⟩) (len + 4) cp,.int .i64 0]) ∧ w'.ownsRow w.heap.size 5 1 (.slice (some ⟨g,0,none⟩) (len + 4) cp) (len + 4) (vrow (frm P)) ∧ Fr Nobody w w' := by
 obtain ⟨i0,hi,hz0,hz1,hz2⟩ := info_parts Tryz.infoB
 have HI : Hid (In w ao len cap P) := h
 clear h
 go_enter Tryz.func18,Tryz.ntmps18
 go_wp2_with fail
 refine (rsum_any w ao cap len (8 * len) P HI.out (by omega) rfl).mono ?_
 rintro e w1 ⟨rfl,hf1⟩
 have HF : Hid _ := hf1
 have hc := crc_lt P
 have HC : Hid (frm P = P ++ le4 (crc P)) := rfl
 clear hf1
 generalize crc P = c at *
 obtain ⟨b0,e0⟩ : ∃ b : Nat,(c : Int) % 256 = (b : Int) := ⟨c % 256,by omega⟩
 obtain ⟨b1,e1⟩ : ∃ b : Nat,(c : Int) / 256 % 256 = (b : Int) := ⟨c / 256 % 256,by omega⟩
 obtain ⟨b2,e2⟩ : ∃ b : Nat,(c : Int) / 65536 % 256 = (b : Int) := ⟨c / 65536 % 256,by omega⟩
 obtain ⟨b3,e3⟩ : ∃ b : Nat,(c : Int) / 16777216 = (b : Int) := ⟨c / 16777216,by omega⟩
 have HB : Hid (le4 c = [b0,b1,b2,b3]) := by
  show _ = _
  unfold le4
  rw [show c % 256 = b0 by omega,show c / 256 % 256 = b1 by omega,show c / 65536 % 256 = b2 by omega,show c / 16777216 % 256 = b3 by omega]
 have H1 : Hid (In w1 ao len cap P) := HI.out.quiet HF.out
 go_wp2_with (at_builtin; refine copy_bytes rfl _ _ rfl ao len cap P H1.out.src H1.out.eqn (by omega) rfl rfl ?_)
 intro v2 w2 ho2 hf2
 have H2 : Hid (w2.ownsRow w.heap.size 5 1 v2 len (vrow P) ∧ Fr Nobody w w2) := ⟨row_low ho2 HF.out.size,HF.out.trans hf2⟩
 have hs2 := H2.out.2.size
 clear ho2 hf2
 go_wp2_with (at_builtin; refine wpList_append_own _ rfl _ _ 22 rfl w.heap.size 5 i0 (.int .u8 0) 1 1 Tryz.underlying22 hi hz0 hz1 hz2 rfl (by decide) _ _ _ rfl (H2.out.1.alloc _) ⟨w2.heap.size,0,none⟩ 4 4 (vrow [b0,b1,b2,b3]) rfl rfl (cell_le4 _ _ _ _ _ _) (one_vrow _) (by unfold maxLen; omega) (by omega) (by simp; omega) ?_)
 intro v3 w3 ho3 hg3 _
 obtain ⟨g,cp,hv3,hg⟩ := row_shape ho3 (by omega)
 subst hv3
 have H3 : Hid (w3.ownsRow w.heap.size 5 1 (.slice (some ⟨g,0,none⟩) (len + 4) cp) (len + 4) (vrow (frm P)) ∧ Fr Nobody w w3) := by
  refine ⟨?_,(H2.out.2.alloc _).grown hg3 (fun q hq => .inr (H2.out.1.lt q hq).1)⟩
  rw [HC.out,HB.out,vrow_append]; exact ho3
 clear ho3 hg3
 go_wp2
 go_ret2
 exact ⟨g,cp,rfl,H3.out⟩
theorem frm_opens (R : List Nat) (m : Nat) (h : R.length = m) : bnum ((frm R).drop m) = crc ((frm R).take m) ∧ (frm R).take m = R := by
 unfold frm
 subst h
 rw [List.drop_left,List.take_left]
 exact ⟨bnum_le4 _ (crc_lt R),rfl⟩
theorem bnum_inj (l m : List Nat) (hl : ∀ x ∈ l,x < 256) (hm : ∀ x ∈ m,x < 256) (hlen : l.length = m.length) (h : bnum l = bnum m) : l = m := by
 induction l generalizing m with
 | nil => exact (List.eq_nil_of_length_eq_zero hlen.symm).symm
 | cons a l ih =>
  cases m with
  | nil => simp at hlen
  | cons b m =>
   have ha := hl a (by simp)
   have hb := hm b (by simp)
   simp only [bnum] at h
   have h1 : a = b := by omega
   have h2 := ih m (fun x hx => hl x (by simp [hx])) (fun x hx => hm x (by simp [hx])) (by simpa using hlen) (by omega)
   rw [h1,h2]
theorem frm_iff (P : List Nat) (d : Nat) (hlen : P.length = d + 4) (hb : ∀ x ∈ P,x < 256) : frm (P.take d) = P ↔ bnum (P.drop d) = crc (P.take d) := by
 have hl : (P.take d).length = d := by rw [List.length_take]; omega
 constructor
 ·intro h
  have h2 : P.drop d = le4 (crc (P.take d)) := by
   have h3 := congrArg (List.drop d) h
   unfold frm at h3
   rw [List.drop_left' hl] at h3
   exact h3.symm
  rw [h2]
  exact bnum_le4 _ (crc_lt _)
 ·intro h
  have h2 : le4 (crc (P.take d)) = P.drop d := by
   refine bnum_inj _ _ (le4_byte _) (fun x hx => hb x (List.mem_of_mem_drop hx)) ?_ (by rw [bnum_le4 _ (crc_lt _),h])
   rw [List.length_drop,hlen]; simp [le4]
  unfold frm
  rw [h2,List.take_append_drop]
set_option maxRecDepth 100000 in
theorem ropen_ok (w : World) (ao : Option Addr) (cap d : Nat) (P : List Nat) (h : In w ao (d + 4) cap P) (hL : d ≤ 4096) (heq : bnum (P.drop d) = crc (P.take d)) :
  Calls Tryz.prog 35 #[.slice ao (d + 4) cap] w fun e w' => ∃ v',e = .returned (.tuple #[v',.int .i64 0]) ∧ w'.ownsRow w.heap.size 5 1 v' d (vrow (P.take d)) ∧ Fr Nobody w w' := by
 obtain ⟨g,o,rfl⟩ := h.some' (by omega)
 have HI : Hid (In w (some ⟨g,o,none⟩) (d + 4) cap P) := h
 have HN : Hid (frm (P.take d) = P) := (frm_iff P d h.eqn h.byt).2 heq
 have HR : Hid (In w (some ⟨g,o,none⟩) d cap (P.take d)) := h.cut d (by omega)
 have hle := h.le
 clear h heq
 go_enter Tryz.func35,Tryz.ntmps35
 go_wp2_with fail
 refine (rseal_ok w _ cap d (P.take d) HR.out hL).mono ?_
 rintro e w1 ⟨g1,cp1,rfl,ho1,hf1⟩
 have H1 : Hid (In w1 (some ⟨g1,0,none⟩) (d + 4) cp1 P ∧ Fr Nobody w w1) := by
  refine ⟨?_,hf1⟩
  have := In.of_row ho1 (by rw [length_frm,HR.out.eqn]) (frm_byte _ HR.out.byt)
  rw [HN.out] at this
  exact this
 clear ho1 hf1
 go_wp2_with fail
 refine (same_any w1 _ _ P H1.out.1.src (HI.out.quiet H1.out.2).src).mono ?_
 rintro e w2 ⟨rfl,rfl⟩
 have HR2 : Hid (In w2 (some ⟨g,o,none⟩) d cap (P.take d)) := HR.out.quiet H1.out.2
 go_wp2_with (at_builtin; refine copy_bytes rfl _ _ rfl _ d cap (P.take d) HR2.out.src HR2.out.eqn (by omega) rfl rfl ?_)
 intro v3 w3 ho3 hf3
 have H3 : Hid (w3.ownsRow w.heap.size 5 1 v3 d (vrow (P.take d)) ∧ Fr Nobody w w3) := ⟨row_low ho3 H1.out.2.size,H1.out.2.trans hf3⟩
 clear ho3 hf3
 go_wp2
 go_ret2
 exact ⟨v3,rfl,H3.out⟩
end Go.Proofs.YtgifeckbflkkpaaGreatDoor
namespace Go.Proofs.YtgifeckbflkkpaaGreatDoor
open Go.RowKit Go.ChangeShapes Go.WideShapes Go.Deep
set_option linter.unusedVariables false
set_option maxHeartbeats 1000000
def RowsAt {α : Type} (G : List Value → α → Prop) (s : Nat) (w : World) (ao : Option Addr) (Q : List α) : Prop :=
 Q = [] ∨ ∃ g o,ao = some ⟨g,o,none⟩ ∧ ∀ (j : Nat) q,Q[j]? = some q → ∃ cs,G cs q ∧ cs.length = s ∧ ∀ r,r < s → w.cell? ⟨g,o + j * s + r,none⟩ = cs[r]?
theorem RowsAt.quiet {α : Type} {G : List Value → α → Prop} {s : Nat} {w w' : World} {ao : Option Addr} {Q : List α} (h : RowsAt G s w ao Q) (hf : Fr Nobody w w') : RowsAt G s w' ao Q := by
 rcases h with h | ⟨g,o,ha,hc⟩
 ·exact .inl h
 ·refine .inr ⟨g,o,ha,fun j q hq => ?_⟩
  obtain ⟨cs,h1,h2,h3⟩ := hc j q hq
  refine ⟨cs,h1,h2,fun r hr => ?_⟩
  have h4 := h3 r hr
  have h5 : cs[r]? = some cs[r] := List.getElem?_eq_getElem (by omega)
  rw [h5] at h4 ⊢
  exact (hf.cell (p := ⟨g,o + j * s + r,none⟩) (World.block_lt_of_cell? w _ h4) id).trans h4
end Go.Proofs.YtgifeckbflkkpaaGreatDoor
namespace Go.Proofs.YtgifeckbflkkpaaGreatDoor
open Go.RowKit
set_option linter.unusedVariables false
set_option maxHeartbeats 1000000
section
variable {α : Type}
def cat (c : α → List Value) (L : List α) : List Value := L.flatMap c
theorem cat_append (c : α → List Value) (L M : List α) : cat c (L ++ M) = cat c L ++ cat c M := by simp [cat]
theorem cat_drop (c : α → List Value) (s : Nat) (hs : ∀ x,(c x).length = s) (L : List α) (n : Nat) : (cat c L).drop (n * s) = cat c (L.drop n) := by
 induction n generalizing L with
 | zero => simp
 | succ n ih =>
  cases L with
  | nil => simp [cat]
  | cons x L =>
   rw [List.drop_succ_cons,← ih L,cat,List.flatMap_cons,Nat.succ_mul,Nat.add_comm,← List.drop_drop]
   rw [List.drop_left' (hs x)]; rfl
theorem cat_at (c : α → List Value) (s : Nat) (hs : ∀ x,(c x).length = s) (L : List α) (i r : Nat) (x : α) (hx : L[i]? = some x) (hr : r < s) : (cat c L)[i * s + r]? = (c x)[r]? := by
 induction i generalizing L with
 | zero =>
  cases L with
  | nil => simp at hx
  | cons y L =>
   simp at hx
   subst hx
   rw [cat,List.flatMap_cons,Nat.zero_mul,Nat.zero_add,List.getElem?_append_left (by rw [hs]; exact hr)]
 | succ i ih =>
  cases L with
  | nil => simp at hx
  | cons y L =>
   rw [cat,List.flatMap_cons,List.getElem?_append_right (by rw [hs,Nat.succ_mul]; omega),hs]
   have := ih L (by simpa using hx)
   rw [cat] at this
   rw [← this]; congr 1; rw [Nat.succ_mul]; omega
theorem one_cat (c : α → List Value) (h : ∀ x,∀ u ∈ c x,u.oneCell' = true) (L : List α) : ∀ u ∈ cat c L,u.oneCell' = true := by
 intro u hu
 rw [cat,List.mem_flatMap] at hu
 obtain ⟨x,_,hx⟩ := hu
 exact h x u hx
end
theorem step_run {P : Program} {ops : Array Oper} {o : Oper} {a : Act} {w : World} {K : Act → World → Prop} {Q : Exit → Act → World → Prop} {E : Prop}
  (hg : o.guard = none) (s x : Operand) (t t' ty : TypeId) (hop : o.op = Op.call { callee := Callee.builtin Builtin.append,args := #[s,x],argTypes := #[t,t'] }) (hty : o.type = ty)
  (vs vx v' : Value) (w' : World) (hs : a.eval s = vs) (hx : a.eval x = vx) (hrun : (Builtin.append_ #[t,t'] ty #[vs,vx]).run P w = .ok v' w')
  (hK : K (a.put o.dst v') w') :
  if Region.wanted o (yielded ops a.tmps) = true then Oper.wp P o a w K Q else E := by
 have hw : Region.wanted o (yielded ops a.tmps) = true := by simp [Region.wanted,hg]
 rw [if_pos hw]
 subst hty
 unfold Oper.wp
 simp [execOp,hop,resolve,invoke,builtin,hs,hx,hrun,Result.andThen]
 exact hK
theorem Own.moved {P : Program} {w0 w : World} {l : List Thing} {e : TypeId} {s len cap g : Nat} {xs : List Value} (h : Own w0 w (Row e s (.slice (some ⟨g,0,none⟩) len cap) len xs :: l)) (t ty : TypeId) (i : TypeInfo) (ht : P.underlying t = some (.slice e)) (hi : P.info? e = some i) (hsize : i.size = s)
  (h1 : ∀ u ∈ xs,u.oneCell' = true) (n : Nat) (hn : n ≤ len) (A : Addr) (hA : A = if cap = n then ⟨g,0,none⟩ else ⟨g,n * s,none⟩) :
  ∃ w',(Builtin.append_ #[t,t] ty #[.slice (some ⟨g,0,none⟩) 0 cap,.slice (some A) (len - n) (cap - n)]).run P w = .ok (.slice (some ⟨g,0,none⟩) (len - n) cap) w' ∧
   Own w0 w' (Row e s (.slice (some ⟨g,0,none⟩) (len - n) cap) (len - n) (xs.drop (n * s)) :: l) := by
 have hr := h.row
 have hcap := row_cap hr
 have h0 := row_cut hr (m := 0) (Nat.zero_le _)
 have hl : (xs.drop (n * s)).length = (len - n) * s := by rw [List.length_drop,hr.1,Nat.sub_mul]
 obtain ⟨w',r1,r2,r3⟩ := run_append_fits (P := P) w 0 t ty e i s ht hi hsize g 0 cap _ h0 A (len - n) (cap - n) (xs.drop (n * s)) hl (by
  intro j u hu
  rw [List.getElem?_drop] at hu
  have hj := (List.getElem?_eq_some_iff.1 hu).1
  have hne : cap ≠ n := by
   intro q
   have : len = n := by omega
   rw [hr.1,this] at hj; omega
  rw [hA,if_neg hne,addr_add,hr.cellAt _ (by rw [← hr.1]; exact hj)]
  exact hu) (fun u hu => h1 u (List.mem_of_mem_drop hu)) (by omega)
 rw [Nat.zero_add] at r1 r2
 refine ⟨w',r1,h.grow (by simpa using r2) r3 ?_⟩
 intro k hk
 left; exact hk
theorem Own.cleared {P : Program} {w0 w : World} {l : List Thing} {e : TypeId} {s m cap g : Nat} {xs : List Value} (h : Own w0 w (Row e s (.slice (some ⟨g,0,none⟩) m cap) m xs :: l)) (t : TypeId) (z : Value) (ht : P.underlying t = some (.slice e)) (hz : ∀ w,(zeroValue e).run P w = .ok z w) (hzs : z.cells.size = s) (h1 : ∀ u ∈ z.cells.toList,u.oneCell' = true) (hs : 0 < s)
  (n c : Nat) (hn : 0 < n) (hmn : m + n ≤ cap) :
  ∃ w',(∀ ty,(Builtin.clear_ #[t] ty #[.slice (some ⟨g,m * s,none⟩) n c]).run P w = .ok (.tuple #[]) w') ∧ Own w0 w' (Row e s (.slice (some ⟨g,0,none⟩) m cap) m xs :: l) := by
 have hr := h.row
 rcases hr.2 with ⟨h0,_⟩ | ⟨g',cap',cur,hv,hb,hgg,k1,k2,k3,k4⟩
 ·cases h0
 ·cases hv
  have hlen : (Builtin.zeroCells z.cells n).toList.length = n * s := by rw [Array.length_toList,size_zeroCells,hzs]
  have hle : m * s + (Builtin.zeroCells z.cells n).toList.length ≤ cur.size := by
   rw [hlen,k3,← Nat.add_mul]; exact Nat.mul_le_mul_right _ hmn
  have hone : ∀ v ∈ (Builtin.zeroCells z.cells n).toList,v.oneCell' = true := by
   intro v hv
   rw [Array.mem_toList_iff,Builtin.zeroCells,Array.mem_map] at hv
   obtain ⟨j,hj,rfl⟩ := hv
   apply h1
   have hlt : j % z.cells.size < z.cells.size := Nat.mod_lt _ (by omega)
   rw [getElem!_pos z.cells _ hlt,Array.mem_toList_iff]
   exact Array.getElem_mem hlt
  have hst := run_storeCells_at (P := P) g (m * s) e (Builtin.zeroCells z.cells n).toList 0 cur w hgg (by simpa using hle) hone
  simp only [Nat.add_zero] at hst
  obtain ⟨R,hR⟩ : ∃ R : Array Value,R = (cur.toList.take (m * s) ++ (Builtin.zeroCells z.cells n).toList ++ cur.toList.drop (m * s + (Builtin.zeroCells z.cells n).toList.length)).toArray := ⟨_,rfl⟩
  rw [← hR] at hst
  have hR1 : R.size = cap * s := by
   rw [hR,← k3]
   simp only [List.size_toArray,List.length_append,List.length_take,List.length_drop,Array.length_toList] at hle ⊢
   omega
  have hR2 : R.toList.take (m * s) = xs := by
   rw [hR]
   show ((cur.toList.take (m * s) ++ _) ++ _).take (m * s) = xs
   rw [List.append_assoc,List.take_left' (by rw [List.length_take,Array.length_toList,k3]; exact Nat.min_eq_left (Nat.mul_le_mul_right _ k1)),← k4]
  refine ⟨w.setRow g R,fun ty => ?_,h.grow (w' := w.setRow g R) (m := m) (ys := xs) ⟨hr.1,.inr ⟨g,cap,R,rfl,hb,setRow_heap w g cur R e (0,0) hgg,k1,k2,hR1,hR2⟩⟩ ⟨rfl,rfl,rfl,by simp [World.setRow],fun k _ hk => setRow_other w g k R (fun e => hk (by simp [e,Value.ownBlock]))⟩ (fun k hk => .inl hk)⟩
  obtain ⟨q,rfl⟩ : ∃ q,n = q + 1 := ⟨n - 1,by omega⟩
  simp only [Builtin.clear_]
  simp [run_underlying ht,hz,hst]
section
variable {α : Type}
def below (t : Nat) (L : List (Nat × α)) : Nat := (L.takeWhile (fun e => decide (e.1 < t))).length
theorem below_le (t : Nat) (L : List (Nat × α)) : below t L ≤ L.length := (List.takeWhile_prefix _).length_le
theorem below_lt (t : Nat) (L : List (Nat × α)) (i : Nat) (e : Nat × α) (hi : i < below t L) (he : L[i]? = some e) : e.1 < t := by
 induction L generalizing i with
 | nil => simp at he
 | cons x L ih =>
  unfold below at hi
  rw [List.takeWhile_cons] at hi
  by_cases c : x.1 < t
  ·cases i with
   | zero => simp at he; subst he; exact c
   | succ i => simp [c] at hi; exact ih i (by unfold below; exact hi) (by simpa using he)
  ·simp [c] at hi
theorem below_at (t : Nat) (L : List (Nat × α)) (e : Nat × α) (he : L[below t L]? = some e) : t ≤ e.1 := by
 induction L with
 | nil => simp at he
 | cons x L ih =>
  unfold below at he
  rw [List.takeWhile_cons] at he
  by_cases c : x.1 < t
  ·simp [c] at he; exact ih (by unfold below; exact he)
  ·simp [c] at he; subst he; omega
def rput (k : Nat) (L : List (Nat × α)) (t : Nat) (v : α) : Int × List (Nat × α) :=
 if ∃ e,L.getLast? = some e ∧ t ≤ e.1 then (12,L) else (0,if k < L.length + 1 then (L ++ [(t,v)]).drop 1 else L ++ [(t,v)])
def rget (L : List (Nat × α)) (t : Nat) : Option α := match L[below t L]? with
 | some e => if e.1 = t then some e.2 else none
 | none => none
structure ROk (k : Nat) (L : List (Nat × α)) : Prop where
 k1 : 1 ≤ k
 k2 : k ≤ 64
 le : L.length ≤ k
 inc : L.Pairwise (fun a b => a.1 < b.1)
 lt : ∀ e ∈ L,e.1 < 4294967296
theorem ROk.nil {k : Nat} (h1 : 1 ≤ k) (h2 : k ≤ 64) : ROk k ([] : List (Nat × α)) := ⟨h1,h2,by simp,by simp,by simp⟩
theorem ROk.drop {k : Nat} {L : List (Nat × α)} (h : ROk k L) (n : Nat) : ROk k (L.drop n) :=
 ⟨h.k1,h.k2,by rw [List.length_drop]; have := h.le; omega,h.inc.sublist (List.drop_sublist _ _),fun e he => h.lt e (List.mem_of_mem_drop he)⟩
end
end Go.Proofs.YtgifeckbflkkpaaGreatDoor
