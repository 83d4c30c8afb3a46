/- Lists of entities that come in, and how many values they hold. -/
import Derived.Test.YtgifeckbflkkpaaGreatDoorQf20
import Derived.Test.YtgifeckbflkkpaaGreatDoorQf17
import Derived.OpenShut
import Derived.Test.YtgifeckbflkkpaaGreatDoorQf43
namespace Go.Proofs.YtgifeckbflkkpaaGreatDoor
open Go.ChangeShapes Go.WideShapes Go.ChangeAt Go.RowKit Go.Deep
set_option linter.unusedVariables false
set_option maxRecDepth 100000
theorem bulk_pos {H : Type} (d : DataW H) : 1 ≤ Rows.uptoBulk d := by
 cases d with
 | lit v => cases v <;> simp [Rows.uptoBulk]
 | _ => simp [Rows.uptoBulk]
theorem bulk_in {H : Type} {d : DataW H} {m : List (DataW H)} (h : d ∈ m) : Rows.uptoBulk d ≤ Rows.uptoBulkAll m := by
 induction m with
 | nil => cases h
 | cons y m ih =>
  simp only [Rows.uptoBulkAll]
  rcases List.mem_cons.1 h with rfl | h
  ·omega
  ·have := ih h; omega
theorem bulk_sum {H : Type} {D : Nat → DataW H} {s : Nat → Nat} : ∀ (R : List Nat),(∀ i ∈ R,s i ≤ Rows.uptoBulk (D i)) → (R.map s).sum ≤ Rows.uptoBulkAll (R.map D) := by
 intro R
 induction R with
 | nil => intro _; exact Nat.zero_le _
 | cons i R ih =>
  intro h
  have h1 := h i (by simp)
  have h2 := ih (fun j hj => h j (List.mem_cons_of_mem _ hj))
  simp only [List.map_cons,List.sum_cons,Rows.uptoBulkAll]
  omega
theorem bulk_slice {H : Type} (a b : List (DataW H)) : Rows.uptoBulk (.slice a b) = Rows.uptoBulkAll a + Rows.uptoBulkAll b + 1 := by simp only [Rows.uptoBulk]
theorem bulk_agg {H : Type} (a : List (DataW H)) : Rows.uptoBulk (.agg a) = Rows.uptoBulkAll a + 1 := by simp only [Rows.uptoBulk]
theorem open_rowsB {H : Type} {enc : TypeId × Value → H} {P : Program} {W : World} {ao : Option Addr} {len cap : Nat} {d : DataW H} {p : List MemPlace} {α : Type} [Inhabited α] {t e : TypeId} (s : Nat) (ht : P.underlying t = some (.slice e)) (hs : P.cellsOf e = s) (h0s : 0 < s) (G : List Value → α → Prop) (sz : α → Nat)
  (hG : ∀ fuel cs x,DataW.trod enc P W 0 (fun _ => true) true fuel e cs = some x → ∃ q,G cs q ∧ sz q ≤ Rows.uptoBulk x.1)
  (h : DataW.Trod enc P W 0 (fun _ => true) true t (.slice ao len cap) d p) :
  ∃ Q : List α,Q.length = len ∧ len ≤ cap ∧ cap ≤ maxLen ∧ RowsAt G s W ao Q ∧ (Q.map sz).sum ≤ Rows.uptoBulk d := by
 obtain ⟨fuel,hf⟩ := h
 rcases open_slice ht hf with ⟨hc,hd⟩ | ⟨a,l,c,m,n,D,Pl,hc,_,hl,hm,hmm,hd,hx⟩
 ·simp [Value.cells] at hc
  obtain ⟨rfl,rfl,rfl⟩ := hc
  exact ⟨[],rfl,Nat.le_refl _,Nat.zero_le _,.inl rfl,Nat.zero_le _⟩
 ·simp [Value.cells] at hc
  obtain ⟨rfl,rfl,rfl⟩ := hc
  simp only [Prod.mk.injEq] at hd
  obtain ⟨rfl,_⟩ := hd
  have hml : len ≤ m := by rw [hmm]; simp; omega
  have each : ∀ i,i < len → ∃ q : α,sz q ≤ Rows.uptoBulk (D i) ∧ ∃ cs,G cs q ∧ cs.length = s ∧ ∀ r,r < s → W.cell? ((a.add (i * s)).add r) = cs[r]? := by
   intro i hi
   obtain ⟨cs',h1,h2⟩ := hx i (by omega)
   rw [hs] at h1
   obtain ⟨_,hlen,hcell⟩ := World.cells?_some h1
   obtain ⟨q,hq,hb⟩ := hG _ _ _ h2
   exact ⟨q,hb,cs',hq,hlen,fun r hr => by rw [hcell r hr,List.getElem?_eq_getElem (by omega)]⟩
  obtain ⟨f,hfn⟩ := choose_lt each
  refine ⟨(List.range len).map f,by simp,hl,hm,?_,?_⟩
  ·by_cases h0 : len = 0
   ·subst h0; left; rfl
   ·right
    obtain ⟨g,o,spot⟩ := a
    obtain ⟨_,cs,_,hcl,hcc⟩ := hfn 0 (by omega)
    have h1 := hcc 0 h0s
    rw [List.getElem?_eq_getElem (by omega)] at h1
    have hsp : spot = none := by simpa [Addr.add] using World.cell?_spot h1
    subst hsp
    refine ⟨g,o,rfl,fun j q hj => ?_⟩
    have hjl : j < len := by
     have := (List.getElem?_eq_some_iff.1 hj).1
     simpa using this
    rw [List.getElem?_map,List.getElem?_range hjl] at hj
    simp only [Option.map_some,Option.some.injEq] at hj
    obtain ⟨_,cs,h1,h2,h3⟩ := hfn j hjl
    rw [hj] at h1
    refine ⟨cs,h1,h2,fun r hr => ?_⟩
    have := h3 r hr
    rw [addr_add,addr_add] at this
    exact this
  ·have h1 := bulk_sum (D := D) (s := fun i => sz (f i)) (List.range len) (fun i hi => (hfn i (by simpa using hi)).1)
   rw [bulk_slice,List.map_map]
   have e : sz ∘ f = fun i => sz (f i) := rfl
   rw [e]
   omega
theorem cellsEnt : Tryz.prog.cellsOf 60 = 2 := by kernel_rfl
theorem cellsEntC : Tryz.prog.cellsOf 58 = 1 := by kernel_rfl
theorem cellsEntI : Tryz.prog.cellsOf 57 = 1 := by kernel_rfl
theorem duo {β : Type} {l : List β} (h : l.length = 2) : ∃ a b,l = [a,b] := by
 match l,h with
 | [a,b],_ => exact ⟨a,b,rfl⟩
def EntI (W : World) (cs : List Value) (x : EnE) : Prop := cs = x.cs ∧ x.id < 4294967296 ∧ IsComps W x.ao x.C.length x.cap x.C
theorem ones_sum {α : Type} (Q : List α) : (Q.map (fun _ => 1)).sum = Q.length := by
 induction Q with
 | nil => rfl
 | cons a t ih => rw [List.map_cons,List.sum_cons,ih,List.length_cons]; omega
theorem open_csB {H : Type} {enc : TypeId × Value → H} {W : World} {fuel : Nat} {cs : List Value} {x : DataW H × List MemPlace} (h : DataW.trod enc Tryz.prog W 0 (fun _ => true) true fuel 58 cs = some x) : ∃ ao cap C,cs = [.slice ao (List.length C) cap] ∧ IsComps W ao (List.length C) cap C ∧ C.length ≤ Rows.uptoBulk x.1 := by
 obtain ⟨ao,len,cap,hv⟩ : ∃ ao len cap,cs = [.slice ao len cap] := by
  rcases open_slice Tryz.underlying58 h with ⟨hc,_⟩ | ⟨a,l,c,m,n,D,Pl,hc,_⟩
  ·exact ⟨_,_,_,hc⟩
  ·exact ⟨_,_,_,hc⟩
 subst hv
 obtain ⟨d,p⟩ := x
 obtain ⟨Q,h1,h2,h3,h4,h5⟩ := open_rowsB 4 Tryz.underlying58 cellsComp (by decide) CompIs (fun _ => 1) (fun fuel cs x hx => by
  obtain ⟨k,a,b,c,g1,g2,g3,g4,hcs,_⟩ := comp_cells hx
  obtain ⟨n,rfl,hn⟩ := ok8_nat g1
  exact ⟨⟨n,a,b,c⟩,⟨hcs,hn⟩,bulk_pos _⟩) (d := d) (p := p) ⟨fuel,h⟩
 subst h1
 refine ⟨ao,cap,Q,rfl,⟨rfl,h2,h3,h4⟩,?_⟩
 rw [ones_sum] at h5
 exact h5
theorem ent_is {H : Type} {enc : TypeId × Value → H} {W : World} (fuel : Nat) (cs : List Value) (x : DataW H × List MemPlace)
  (h : DataW.trod enc Tryz.prog W 0 (fun _ => true) true fuel 60 cs = some x) : ∃ e,EntI W cs e ∧ e.C.length + 1 ≤ Rows.uptoBulk x.1 := by
 obtain ⟨xs,n,_,hx,hl,hlen,hf⟩ := DataW.trod_struct Tryz.underlying60 h
 rw [cellsEnt] at hl
 obtain ⟨c0,c1,rfl⟩ := duo hl
 obtain ⟨y0,y1,rfl⟩ := duo hlen
 have h0 := hf 0 _ rfl
 have h1 := hf 1 _ rfl
 simp [cellsEntC,cellsEntI] at h0 h1
 obtain ⟨b,b0,_,wb⟩ := DataW.trod_int Tryz.underlying57 h0
 simp at b0
 subst b0
 have hb : 0 ≤ b ∧ b ≤ 4294967295 := by simpa [Lit.wf,IntKind.min,IntKind.max,IntKind.signed,IntKind.bits] using wb
 obtain ⟨bn,rfl⟩ := Int.eq_ofNat_of_zero_le hb.1
 obtain ⟨ao,cap,C,hv,hC,hs⟩ := open_csB h1
 simp at hv
 subst hv
 refine ⟨⟨bn,ao,cap,C⟩,⟨rfl,by show bn < _; omega,hC⟩,?_⟩
 subst hx
 show _ ≤ Rows.uptoBulk (.agg [y0.1,y1.1])
 rw [bulk_agg]
 have := bulk_in (d := y1.1) (m := [y0.1,y1.1]) (by simp)
 show C.length + 1 ≤ _
 omega
def IsEnts (w : World) (ao : Option Addr) (len cap : Nat) (Q : List EnE) : Prop := Q.length = len ∧ len ≤ cap ∧ cap ≤ maxLen ∧ RowsAt (EntI w) 2 w ao Q
theorem esz_sum (Q : List EnE) : (Q.map (fun x => x.C.length + 1)).sum = esz Q := by
 unfold esz
 induction Q with
 | nil => rfl
 | cons x t ih => simp only [List.map_cons,List.sum_cons,List.length_cons,csz,ih]; omega
theorem open_ents {H : Type} {enc : TypeId × Value → H} {W : World} {ao : Option Addr} {len cap : Nat} {d : DataW H} {p : List MemPlace}
  (h : DataW.Trod enc Tryz.prog W 0 (fun _ => true) true 23 (.slice ao len cap) d p) : ∃ Q,IsEnts W ao len cap Q ∧ esz Q ≤ Rows.uptoBulk d := by
 haveI : Inhabited EnE := ⟨⟨0,none,0,[]⟩⟩
 obtain ⟨Q,h1,h2,h3,h4,h5⟩ := open_rowsB 2 Tryz.underlying23 cellsEnt (by decide) (EntI W) (fun x => x.C.length + 1) (fun fuel cs x hx => ent_is fuel cs x hx) h
 rw [esz_sum] at h5
 exact ⟨Q,⟨h1,h2,h3,h4⟩,h5⟩
theorem IsEnts.ents {w : World} {ao : Option Addr} {len cap : Nat} {Q : List EnE} (h : IsEnts w ao len cap Q) : EntsAt w ao Q ∧ EIn Q := by
 obtain ⟨hl,_,_,hR⟩ := h
 have key : ∀ x ∈ Q,x.id < 4294967296 ∧ IsComps w x.ao x.C.length x.cap x.C := by
  intro x hx
  obtain ⟨j,hj⟩ := List.getElem?_of_mem hx
  rcases hR with h | ⟨g,of,ha,hc⟩
  ·subst h; simp at hj
  ·obtain ⟨cs,⟨_,h3,h4⟩,_⟩ := hc j x hj
   exact ⟨h3,h4⟩
 refine ⟨⟨?_,fun x hx => (key x hx).2.cs.1⟩,fun x hx => ⟨(key x hx).1,(key x hx).2.cs.2⟩⟩
 rcases hR with h | ⟨g,of,ha,hc⟩
 ·exact .inl h
 ·refine .inr ⟨g,of,ha,fun j x hj => ?_⟩
  obtain ⟨cs,⟨rfl,_⟩,_,h3⟩ := hc j x hj
  exact ⟨h3 0 (by decide),h3 1 (by decide)⟩
structure LeE where
 ao : Option Addr
 cap : Nat
 L : List EnE
def LeI (W : World) (cs : List Value) (x : LeE) : Prop := cs = [.slice x.ao x.L.length x.cap] ∧ IsEnts W x.ao x.L.length x.cap x.L
theorem cellsEntsS : Tryz.prog.cellsOf 23 = 1 := by kernel_rfl
def IsLents (w : World) (ao : Option Addr) (len cap : Nat) (Q : List LeE) : Prop := Q.length = len ∧ len ≤ cap ∧ cap ≤ maxLen ∧ RowsAt (LeI w) 1 w ao Q
theorem open_lents {H : Type} {enc : TypeId × Value → H} {W : World} {ao : Option Addr} {len cap : Nat} {d : DataW H} {p : List MemPlace}
  (h : DataW.Trod enc Tryz.prog W 0 (fun _ => true) true 74 (.slice ao len cap) d p) : ∃ Q,IsLents W ao len cap Q ∧ (Q.map (fun x => esz x.L)).sum ≤ Rows.uptoBulk d := by
 haveI : Inhabited LeE := ⟨⟨none,0,[]⟩⟩
 obtain ⟨Q,h1,h2,h3,h4,h5⟩ := open_rowsB 1 Tryz.underlying74 cellsEntsS (by decide) (LeI W) (fun x => esz x.L) (fun fuel cs x hx => by
  obtain ⟨a,l,c,rfl⟩ : ∃ a l c,cs = [.slice a l c] := by
   rcases open_slice Tryz.underlying23 hx with ⟨hc,_⟩ | ⟨a,l,c,m,n,D,Pl,hc,_⟩
   ·exact ⟨_,_,_,hc⟩
   ·exact ⟨_,_,_,hc⟩
  obtain ⟨d0,p0⟩ := x
  obtain ⟨M,hM,hz⟩ := open_ents (d := d0) (p := p0) ⟨fuel,hx⟩
  have hl := hM.1
  subst hl
  exact ⟨⟨a,c,M⟩,⟨rfl,hM⟩,hz⟩) h
 exact ⟨Q,⟨h1,h2,h3,h4⟩,h5⟩
theorem IsLents.at {w : World} {ao : Option Addr} {len cap : Nat} {Q : List LeE} (h : IsLents w ao len cap Q) {j : Nat} {x : LeE} (hx : Q[j]? = some x) : ∃ g o,ao = some ⟨g,o,none⟩ ∧ w.cell? ⟨g,o + j,none⟩ = some (.slice x.ao x.L.length x.cap) ∧ IsEnts w x.ao x.L.length x.cap x.L := by
 obtain ⟨_,_,_,h4⟩ := h
 rcases h4 with h | ⟨g,o,ha,hc⟩
 ·subst h; simp at hx
 ·obtain ⟨cs,⟨rfl,h2⟩,_,h3⟩ := hc j x hx
  have := h3 0 (by decide)
  exact ⟨g,o,ha,by simpa using this,h2⟩
theorem sum_le {α : Type} (f : α → Nat) {Q : List α} {x : α} (h : x ∈ Q) : f x ≤ (Q.map f).sum := by
 induction Q with
 | nil => cases h
 | cons a t ih =>
  rw [List.map_cons,List.sum_cons]
  rcases List.mem_cons.1 h with rfl | h
  ·omega
  ·have := ih h; omega
def BlI (cs : List Value) (q : Bool) : Prop := cs = [.bool q]
def IsBls (w : World) (ao : Option Addr) (len cap : Nat) (Q : List Bool) : Prop := Q.length = len ∧ len ≤ cap ∧ cap ≤ maxLen ∧ RowsAt BlI 1 w ao Q
theorem IsBls.at {w : World} {ao : Option Addr} {len cap : Nat} {Q : List Bool} (h : IsBls w ao len cap Q) {k : Nat} {q : Bool} (hk : Q[k]? = some q) : ∃ g o,ao = some ⟨g,o,none⟩ ∧ w.cell? ⟨g,o + k,none⟩ = some (.bool q) := by
 obtain ⟨_,_,_,h4⟩ := h
 rcases h4 with h | ⟨g,o,ha,hc⟩
 ·subst h; simp at hk
 ·obtain ⟨cs,h1,h2,h3⟩ := hc k q hk
  have := h3 0 (by decide)
  rw [h1] at this
  exact ⟨g,o,ha,by simpa using this⟩
theorem hget_last {H : List HeE} {y : HeE} (h : ∀ x ∈ H,x.t < y.t) : hget (H ++ [y]) y.t = some y := by
 have hb : below y.t ((H ++ [y]).map HeE.r) = H.length := by
  unfold below
  rw [List.map_append,List.takeWhile_append_of_pos (fun e he => by
   obtain ⟨x,hx,rfl⟩ := List.mem_map.1 he
   exact decide_eq_true (h x hx))]
  simp [HeE.r]
 unfold hget
 rw [hb,List.getElem?_append_right (Nat.le_refl _)]
 simp
theorem hget_put {k : Nat} {H : List HeE} {y : HeE} (hk : 1 ≤ k) (h : ∀ x ∈ H,x.t < y.t) : hget (putH k H y) y.t = some y := by
 unfold putH
 split
 ·rename_i hl
  cases H with
  | nil => simp at hl; omega
  | cons a t =>
   show hget (t ++ [y]) y.t = some y
   exact hget_last (fun x hx => h x (List.mem_cons_of_mem _ hx))
 ·exact hget_last h
theorem ROk.dropN {α : Type} {k : Nat} {R : List (Nat × α)} (h : ROk k R) (n : Nat) : ROk k (R.drop n) where
 k1 := h.k1
 k2 := h.k2
 le := by rw [List.length_drop]; have := h.le; omega
 inc := h.inc.sublist (List.drop_sublist _ _)
 lt := fun e he => h.lt e (List.mem_of_mem_drop he)
theorem SendR.two {c e bud st t st' code : Nat} {ss ss' put : Bool} {bo : Option (Nat × List En)} {N : List En} {P : List Nat} (h : SendR c e bud ss st bo t N code P ss' st' put) (h1 : (ss && decide (t ≤ st)) = false) (h2 : fm 0 N = 0) : (lfit c e bud t bo N = false ∧ code = 3 ∧ P = [] ∧ ss' = true ∧ st' = t ∧ put = false) ∨ (lfit c e bud t bo N = true ∧ code = 0 ∧ P = lfrm c e bud t bo N ∧ ss' = true ∧ st' = t ∧ put = true) := by
 rcases h with ⟨a,b,_⟩ | ⟨_,a,_⟩ | ⟨_,_,h⟩ | ⟨_,_,h⟩
 ·rw [a] at h1; simp at h1; omega
 ·exact absurd h2 a
 ·exact .inl h
 ·exact .inr h
structure LnI (w0 : World) (X : List Thing) (k : Nat) (H : List HeE) (ss : Bool) (st : Nat) : Prop where
 cs : ∀ W,Own w0 W X → ∀ x ∈ H,EntsAt W x.ao x.L
 rk : ROk k (H.map HeE.r)
 ok : HOk H
 tk : ∀ x ∈ H,ss = true ∧ x.t ≤ st
theorem LnI.put {w0 : World} {X : List Thing} {k : Nat} {H : List HeE} {ss : Bool} {st : Nat} (h : LnI w0 X k H ss st) {y : HeE} (hy : HOk [y]) (hs : (ss && decide (y.t ≤ st)) = false) (ht : y.t < 4294967296) : LnI w0 (EntsT y.ao y.cap y.L :: X) k (putH k H y) true y.t ∧ ∀ x ∈ H,x.t < y.t := by
 have hlt : ∀ x ∈ H,x.t < y.t := fun x hx => by
  have h1 := h.tk x hx
  rw [h1.1] at hs
  simp at hs
  omega
 refine ⟨⟨fun W hW x hx => ?_,putH_ok h.rk hlt ht,fun x hx => ?_,fun x hx => ?_⟩,hlt⟩
 ·rcases putH_mem hx with hx | rfl
  ·exact h.cs W hW.tail x hx
  ·exact hW.entsAt
 ·rcases putH_mem hx with hx | rfl
  ·exact h.ok x hx
  ·exact hy _ (by simp)
 ·rcases putH_mem hx with hx | rfl
  ·exact ⟨rfl,Nat.le_of_lt (hlt x hx)⟩
  ·exact ⟨rfl,Nat.le_refl _⟩
theorem LnI.more {w0 : World} {X : List Thing} {k : Nat} {H : List HeE} {ss : Bool} {st : Nat} (h : LnI w0 X k H ss st) (P : Thing) : LnI w0 (P :: X) k H ss st := ⟨fun W hW => h.cs W hW.tail,h.rk,h.ok,h.tk⟩
theorem LnI.up {w0 : World} {X : List Thing} {k : Nat} {H : List HeE} {ss : Bool} {st st' : Nat} (h : LnI w0 X k H ss st) (hs : (ss && decide (st' ≤ st)) = false) : LnI w0 X k H true st' := ⟨h.cs,h.rk,h.ok,fun x hx => by
 have h1 := h.tk x hx
 rw [h1.1] at hs
 simp at hs
 exact ⟨rfl,by omega⟩⟩
theorem LnI.drop {w0 : World} {X : List Thing} {k : Nat} {H : List HeE} {ss : Bool} {st : Nat} (h : LnI w0 X k H ss st) (n : Nat) : LnI w0 X k (H.drop n) ss st := ⟨fun W hW x hx => h.cs W hW x (List.mem_of_mem_drop hx),by rw [List.map_drop]; exact h.rk.dropN n,fun x hx => h.ok x (List.mem_of_mem_drop hx),fun x hx => h.tk x (List.mem_of_mem_drop hx)⟩
end Go.Proofs.YtgifeckbflkkpaaGreatDoor
