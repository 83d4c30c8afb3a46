/- Turns that come in; what is told of a world's orders hangs on no clock; who has changed. -/
import Derived.Test.YtogmdoiecpihdaaGreatDoorQw35
import Derived.OpenShut
import Derived.Test.YtogmdoiecpihdaaGreatDoorQw06
import Derived.Deep.QuietTactic
import Derived.Deep.RegionHeld3
import Derived.Deep.AppendLies
import Derived.Test.YtogmdoiecpihdaaGreatDoorQw01
import Derived.Test.YtogmdoiecpihdaaGreatDoorQw23
namespace Go.Proofs.YtogmdoiecpihdaaGreatDoor
open Go.ChangeShapes Go.WideShapes Go.ChangeAt Go.RowKit Go.Deep
set_option linter.unusedVariables false
set_option maxHeartbeats 8000000
set_option maxRecDepth 100000
structure TrnE where
 ao : Option Addr
 len : Nat
 cap : Nat
 Q : List OrdE
 look : Nat
def TrnIs (W : World) (cs : List Value) (t : TrnE) : Prop := cs = [.slice t.ao t.len t.cap,.int .u32 (t.look : Int)] ∧ t.look < 4294967296 ∧ IsOrds W t.ao t.len t.cap t.Q
theorem cellsTrn : Tryz.prog.cellsOf 34 = 2 := by kernel_rfl
theorem cellsTrnS : Tryz.prog.cellsOf 32 = 1 := by kernel_rfl
theorem cellsTrnU : Tryz.prog.cellsOf 22 = 1 := by kernel_rfl
theorem lst2 {β : Type} {l : List β} (h : l.length = 2) : ∃ a b,l = [a,b] := by
 match l,h with
 | [a,b],_ => exact ⟨a,b,rfl⟩
theorem turn_is {H : Type} {enc : TypeId × Value → H} {W : World} (fuel : Nat) (cs : List Value) (x : DataW H × List MemPlace)
  (h : DataW.trod enc Tryz.prog W 0 (fun _ => true) true fuel 34 cs = some x) : ∃ t,TrnIs W cs t := by
 obtain ⟨xs,n,_,hx,hl,hlen,hf⟩ := DataW.trod_struct Tryz.underlying34 h
 rw [cellsTrn] at hl
 obtain ⟨c0,c1,rfl⟩ := lst2 hl
 obtain ⟨y0,y1,rfl⟩ := lst2 hlen
 have h0 := hf 0 _ rfl
 have h1 := hf 1 _ rfl
 simp [cellsTrnS,cellsTrnU] at h0 h1
 obtain ⟨b,b0,_,wb⟩ := DataW.trod_int Tryz.underlying22 h1
 simp at b0
 subst b0
 have hb : 0 ≤ b ∧ b ≤ 4294967295 := by simpa [Lit.wf,IntKind.min,IntKind.max,IntKind.signed,IntKind.bits] using wb
 obtain ⟨bn,rfl⟩ := Int.eq_ofNat_of_zero_le hb.1
 obtain ⟨ao,len,cap,hv⟩ : ∃ ao len cap,c0 = .slice ao len cap := by
  rcases open_slice Tryz.underlying32 h0 with ⟨hc,_⟩ | ⟨a,l,c,m,n,D,Pl,hc,_⟩
  ·simp at hc; exact ⟨_,_,_,hc⟩
  ·simp at hc; exact ⟨_,_,_,hc⟩
 subst hv
 obtain ⟨d,p⟩ := y0
 haveI : Inhabited OrdE := ⟨⟨0,0,0,[],none,0⟩⟩
 obtain ⟨Q,hQ⟩ : ∃ Q,IsOrds W ao len cap Q := open_rows 4 Tryz.underlying32 cellsOrd (by decide) (OrdT W) (fun fuel cs x hx => ord_is fuel cs x hx) (d := d) (p := p) ⟨_,by simpa [Value.cells] using h0⟩
 exact ⟨⟨ao,len,cap,Q,bn⟩,rfl,by show bn < _; omega,hQ⟩
def IsTurns (w : World) (ao : Option Addr) (len cap : Nat) (Q : List TrnE) : Prop := Q.length = len ∧ len ≤ cap ∧ cap ≤ maxLen ∧ RowsAt (TrnIs w) 2 w ao Q
theorem open_turns {H : Type} {enc : TypeId × Value → H} {W : World} {base : Nat} {ao : Option Addr} {len cap : Nat} {d : DataW H} {p : List MemPlace}
  (hv : Value.okWide Tryz.prog W .any base 23 (.slice ao len cap)) (h : DataW.Trod enc Tryz.prog W 0 (fun _ => true) true 23 (.slice ao len cap) d p) : ∃ Q,IsTurns W ao len cap Q := by
 haveI : Inhabited TrnE := ⟨⟨none,0,0,[],0⟩⟩
 exact open_rows 2 Tryz.underlying23 cellsTrn (by decide) (TrnIs W) (fun fuel cs x hx => turn_is fuel cs x hx) h
theorem stq_K (σ : Sto) (K K' : Nat) (o : OrdE) : (stq (σ,K) o).1 = (stq (σ,K') o).1 ∧ (stq (σ,K) o).2.1 = (stq (σ,K') o).2.1 := by
 unfold stq
 split
 ·exact ⟨rfl,rfl⟩
 ·split
  ·exact ⟨rfl,rfl⟩
  ·split
   ·exact ⟨rfl,rfl⟩
   ·split
    ·exact ⟨rfl,rfl⟩
    ·split <;> exact ⟨rfl,rfl⟩
theorem runs_K (E : List OrdE) : ∀ (σ : Sto) (K K' : Nat),(runs stq (σ,K) E).1 = (runs stq (σ,K') E).1 ∧ (runs stq (σ,K) E).2.1 = (runs stq (σ,K') E).2.1 := by
 induction E with
 | nil => intro σ K K'; exact ⟨rfl,rfl⟩
 | cons o E ih =>
  intro σ K K'
  obtain ⟨h1,h2⟩ := stq_K σ K K' o
  have e : ∀ s : Sto × Nat,s = (s.1,s.2) := fun s => rfl
  simp only [runs]
  rw [h1]
  have h3 := ih (stq (σ,K) o).2.1 (stq (σ,K) o).2.2 (stq (σ,K') o).2.2
  rw [h2] at h3
  rw [e (stq (σ,K) o).2,h2]
  exact ⟨by rw [h3.1],h3.2⟩
end Go.Proofs.YtogmdoiecpihdaaGreatDoor
namespace Go.Proofs.YtogmdoiecpihdaaGreatDoor
open Go.RowKit
set_option linter.unusedVariables false
set_option maxHeartbeats 8000000
set_option maxRecDepth 100000
instance : DecidableEq Cp := fun x y => decidable_of_iff (x.k = y.k ∧ x.a = y.a ∧ x.b = y.b ∧ x.c = y.c) (by cases x; cases y; simp)
abbrev En := Nat × List Cp
def un (C : List Cp) : Bool := C.any (fun c => !ktold c.k)
def ent1 (p : Nat) (x : En) : Nat := if x.1 / 1024 < 1 ∨ x.1 ≤ p then 4 else if lst (-1) x.2 ≠ 0 then lst (-1) x.2 else if un x.2 = true then 4 else 0
def fm : Nat → List En → Nat
 | _,[] => 0
 | p,x :: t => if ent1 p x ≠ 0 then ent1 p x else fm x.1 t
def Good (C : List Cp) : Prop := C.Pairwise (fun x y => x.k < y.k) ∧ ∀ q ∈ C,q.k < 6
structure Snap (L : List En) : Prop where
 up : L.Pairwise (fun a b => a.1 < b.1)
 good : ∀ x ∈ L,Good x.2
theorem ent1_ok {p : Nat} {x : En} (h : ent1 p x = 0) : 1 ≤ x.1 / 1024 ∧ p < x.1 ∧ lst (-1) x.2 = 0 ∧ un x.2 = false := by
 unfold ent1 at h
 split at h
 ·cases h
 ·split at h
  ·rename_i h1; exact absurd h h1
  ·split at h
   ·cases h
   ·rename_i h1 h2 h3
    simp only [not_or] at h1
    exact ⟨by omega,by omega,by simpa using h2,by simpa using h3⟩
theorem good_of {C : List Cp} (h : lst (-1) C = 0) : Good C := ⟨(lst_ok h).1,fun q hq => chk_k ((lst_ok h).2 q hq).2⟩
theorem fm_ok {L : List En} : ∀ {p : Nat},fm p L = 0 → Snap L ∧ ∀ x ∈ L,p < x.1 := by
 induction L with
 | nil => intro p _; exact ⟨⟨List.Pairwise.nil,fun x hx => by cases hx⟩,fun x hx => by cases hx⟩
 | cons y t ih =>
  intro p h
  rw [fm] at h
  split at h
  ·rename_i h1; exact absurd h h1
  ·rename_i h1
   have h1 : ent1 p y = 0 := by simpa using h1
   obtain ⟨h2,h3⟩ := ih h
   obtain ⟨e1,e2,e3,e4⟩ := ent1_ok h1
   refine ⟨⟨List.pairwise_cons.2 ⟨fun x hx => h3 x hx,h2.up⟩,fun x hx => ?_⟩,fun x hx => ?_⟩
   ·rcases List.mem_cons.1 hx with rfl | hx
    ·exact good_of e3
    ·exact h2.good x hx
   ·rcases List.mem_cons.1 hx with rfl | hx
    ·exact e2
    ·have := h3 x hx; omega
theorem Snap.of {L : List En} (h : fm 0 L = 0) : Snap L := (fm_ok h).1
theorem Snap.tail {x : En} {L : List En} (h : Snap (x :: L)) : Snap L := ⟨(List.pairwise_cons.1 h.up).2,fun y hy => h.good y (List.mem_cons_of_mem _ hy)⟩
def fst (L : List Cp) (k : Nat) : Option Cp := L.find? (fun q => decide (q.k = k))
structure Chg where
 id : Nat
 lost : Nat
 new : List Cp
 set : List Cp
def Chg.nil (c : Chg) : Bool := decide (c.lost = 0) && c.new.isEmpty && c.set.isEmpty
def EntsAt (w : World) (ao : Option Addr) (L : List EnE) : Prop := (L = [] ∨ ∃ g o,ao = some ⟨g,o,none⟩ ∧ ∀ (j : Nat) x,L[j]? = some x → w.cell? ⟨g,o + j * 2,none⟩ = some (.int .u32 (x.id : Int)) ∧ w.cell? ⟨g,o + j * 2 + 1,none⟩ = some (.slice x.ao x.C.length x.cap)) ∧ ∀ x ∈ L,Cs w x.ao x.C
theorem EntsAt.quiet {w w' : World} {ao : Option Addr} {L : List EnE} (h : EntsAt w ao L) (hf : Fr Nobody w w') : EntsAt w' ao L := by
 refine ⟨?_,fun x hx => (h.2 x hx).quiet hf⟩
 rcases h.1 with h | ⟨g,o,ha,hc⟩
 ·exact .inl h
 ·refine .inr ⟨g,o,ha,fun j x hx => ?_⟩
  obtain ⟨h0,h1⟩ := hc j x hx
  have hb := World.block_lt_of_cell? w _ h0
  exact ⟨(hf.cell (p := ⟨g,o + j * 2,none⟩) hb id).trans h0,(hf.cell (p := ⟨g,o + j * 2 + 1,none⟩) hb id).trans h1⟩
theorem EntsAt.at {w : World} {ao : Option Addr} {L : List EnE} (h : EntsAt w ao L) {j : Nat} {x : EnE} (hx : L[j]? = some x) : ∃ g o,ao = some ⟨g,o,none⟩ ∧ w.cell? ⟨g,o + j * 2,none⟩ = some (.int .u32 (x.id : Int)) ∧ w.cell? ⟨g,o + j * 2 + 1,none⟩ = some (.slice x.ao x.C.length x.cap) ∧ Cs w x.ao x.C := by
 rcases h.1 with h0 | ⟨g,o,ha,hc⟩
 ·subst h0; simp at hx
 ·exact ⟨g,o,ha,(hc j x hx).1,(hc j x hx).2,h.2 x (List.mem_of_getElem? hx)⟩
theorem Own.entsAt {w0 w : World} {l : List Thing} {ao : Option Addr} {cap : Nat} {L : List EnE} (h : Own w0 w (EntsT ao cap L :: l)) : EntsAt w ao L := by
 refine ⟨?_,fun x hx => ?_⟩
 ·rcases Nat.eq_zero_or_pos L.length with h0 | h0
  ·exact .inl (List.eq_nil_of_length_eq_zero h0)
  ·obtain ⟨x0,hx0⟩ : ∃ x,L[0]? = some x := ⟨_,List.getElem?_eq_getElem h0⟩
   obtain ⟨⟨g,hg,_,_⟩,_⟩ := h.entAt hx0
   refine .inr ⟨g,0,hg,fun j x hx => ?_⟩
   obtain ⟨⟨g',hg',h1,h2⟩,_⟩ := h.entAt hx
   rw [hg] at hg'
   cases hg'
   rw [Nat.zero_add]
   exact ⟨h1,h2⟩
 ·obtain ⟨j,hj⟩ := List.getElem?_of_mem hx
  exact (h.entAt hj).2
def evs (L : List EnE) : List En := L.map (fun x => (x.id,x.C))
theorem evs_len (L : List EnE) : (evs L).length = L.length := by simp [evs]
theorem evs_at {L : List EnE} {j : Nat} {x : EnE} (h : L[j]? = some x) : (evs L)[j]? = some (x.id,x.C) := by simp [evs,h]
def EIn (L : List EnE) : Prop := ∀ x ∈ L,x.id < 4294967296 ∧ ∀ q ∈ x.C,q.k < 256
def csz : List EnE → Nat
 | [] => 0
 | x :: t => x.C.length + csz t
theorem csz_append (A B : List EnE) : csz (A ++ B) = csz A + csz B := by
 induction A with
 | nil => simp [csz]
 | cons x t ih => simp only [List.cons_append,csz,ih]; omega
theorem csz_take {L : List EnE} {j : Nat} {x : EnE} (h : L[j]? = some x) : csz (L.take (j + 1)) = csz (L.take j) + x.C.length := by
 rw [List.take_add_one,h,csz_append]; simp [csz]
theorem csz_take_le (L : List EnE) (j : Nat) : csz (L.take j) ≤ csz L := by
 have h := csz_append (L.take j) (L.drop j)
 rw [List.take_append_drop] at h
 omega
theorem csz_mem {L : List EnE} {x : EnE} (h : x ∈ L) : x.C.length ≤ csz L := by
 obtain ⟨j,hj⟩ := List.getElem?_of_mem h
 have h1 := csz_take hj
 have h2 := csz_take_le L (j + 1)
 omega
def esz (L : List EnE) : Nat := L.length + csz L
theorem Own.dropA {w0 w : World} {A l : List Thing} (h : Own w0 w (A ++ l)) : Own w0 w l := by
 induction A with
 | nil => exact h
 | cons a t ih => exact ih h.tail
theorem rtwins_any (w0 w : World) (l : List Thing) (h : Own w0 w l) (ae : Option Addr) (n ce : Nat) (L : List EnE) (hQ : ∀ w',Own w0 w' l → EntsAt w' ae L) (hn : L.length = n) (hz : esz L ≤ 1000000) :
  Calls Tryz.prog 110 #[.slice ae n ce] w fun e w' => ∃ (ao : Option Addr) (cap : Nat),e = .returned (.slice ao n cap) ∧ ∃ M : List EnE,M.length = n ∧ evs M = evs L ∧ Own w0 w' (EntsT ao cap M :: l) := by
 obtain ⟨i0,hi,hz0,hz1,hz2⟩ := info3w Tryz.infoEnt
 obtain ⟨i1,hi1,hy0,hy1,hy2⟩ := info_parts Tryz.infoComp
 have HN : Hid (L.length = n) := hn
 have HQ : Hid (∀ w',Own w0 w' l → EntsAt w' ae L) := hQ
 have HC : Hid (∀ x ∈ L,x.C.length ≤ 1000000) := fun x hx => by have := csz_mem hx; unfold esz at hz; omega
 have hl : n ≤ 1000000 := by unfold esz at hz; omega
 have H : Hid (Own w0 w l) := h
 clear h hn hQ hz
 go_enter Tryz.func110,Tryz.ntmps110
 go_wp2
 go_loopw [3,8] (fun vo vi wr => ∃ (j : Nat) (M : List EnE) (ao : Option Addr) (cap : Nat),j ≤ n ∧ vi = .int .i64 (j : Int) ∧ vo = .slice ao j cap ∧ M.length = j ∧ evs M = evs (L.take j) ∧ Own w0 wr (Row 76 2 (.slice ao j cap) j (cat EnE.cs M) :: (M.map erow ++ l))) (fun _ vi _ => n - (intOf vi).toNat)
 case atStart => exact ⟨0,[],none,0,Nat.zero_le _,rfl,rfl,rfl,rfl,H.out.nilRow _ _⟩
 case round =>
  obtain ⟨j,M,ao,cap,hj,rfl,rfl,hMl,hM,hO⟩ := hrel
  have HM : Hid (M.length = j ∧ evs M = evs (L.take j)) := ⟨hMl,hM⟩
  clear H hMl hM
  by_cases hlt : j < n
  ·have hlt' : (j : Int) < (n : Int) := by omega
   obtain ⟨x,hx⟩ : ∃ x,L[j]? = some x := ⟨_,List.getElem?_eq_getElem (by rw [HN.out]; exact hlt)⟩
   obtain ⟨g,o,hg,c0,c1,hcs⟩ := (HQ.out wr hO.tail.dropA).at hx
   have hcl := HC.out x (List.mem_of_getElem? hx)
   have hB := hO.allocC #[.int .u32 (x.id : Int),.slice x.ao x.C.length x.cap] 76
   have HTW : Hid (Calls _ _ _ _ _) := twin_any w0 _ _ hB.drew x.ao x.C.length x.cap x.C rfl (hcs.quiet ((Fr.refl _ _).alloc _).drew) hcl
   have HM2 : Hid (∀ a c,evs (M ++ [EnE.mk x.id a c x.C]) = evs (L.take (j + 1))) := by
    intro a c
    have e := HM.out.2
    unfold evs at e ⊢
    rw [List.map_append,e,List.take_add_one,hx]
    simp
   subst hg
   obtain ⟨xi,xa,xc,C⟩ := x
   simp only at c0 c1 HTW HM2
   have HB : Hid (Own w0 _ _) := hB
   generalize hcl2 : C.length = cl at *
   have HCL : Hid (C.length = cl) := hcl2
   clear hO hB hx hcs hcl2
   go_wp2
   generalize hWg : wr.alloc (.cells #[.int .u32 (xi : Int),.slice xa cl xc] 76) = W1 at *
   generalize wr.heap.size = b5 at *
   clear hWg c0 c1
   have p0 := HB.out.cell 0
   have p1 := HB.out.cell 1
   simp at p0 p1
   go_region_held3 (fun w' => w'.cell? ⟨b5,0,none⟩ = some (.int .u32 (xi : Int)) ∧ w'.cell? ⟨b5,1,none⟩ = some (.slice xa cl xc)) (go_keep)
    (first
      | (go_at_call 42; refine HTW.out.mono ?_; rintro e w5 ⟨a5,c5,rfl,h5⟩
         have u0 := h5.two.cell 0
         have u1 := h5.two.cell 1
         simp at u0 u1
         have h5b := h5.three.alloc (.cells #[.int .u32 (xi : Int),.slice a5 cl c5] 76)
         have h5c := (h5.litRow #[.int .u32 (xi : Int),.slice a5 cl c5] 76 2 1 (by decide) rfl).row
         have v0 := h5b.three.cell 0
         have v1 := h5b.three.cell 1
         simp at v0 v1
         have H5 : Hid (Own w0 _ _) := h5b
         have H5C : Hid (World.ownsRow _ _ _ _ _ _ _) := h5c
         clear h5 h5b h5c)
      | (refine step_allW rfl _ _ 62 rfl 76 i0 (.agg #[.int .u32 0,.slice none 0 0]) 2 32 Tryz.underlying62 hi hz0 hz1 hz2 rfl (by decide) _ _ _ rfl _ _ _ _ rfl H5.out H5C.out (by intro u hu; simp at hu; rcases hu with rfl | rfl <;> rfl) (by unfold maxLen; omega) (by omega) ?_
         intro g6 c6 w6 hO6
         have t0 := hO6.three.cell 0
         have t1 := hO6.three.cell 1
         simp at t0 t1
         have H6 : Hid (Own w0 w6 _) := hO6
         clear hO6))
   have H7 : Hid (Own w0 w6 (Row 76 2 (.slice g6 (j + 1) c6) (j + 1) (cat EnE.cs (M ++ [EnE.mk xi a5 c5 C])) :: ((M ++ [EnE.mk xi a5 c5 C]).map erow ++ l))) := by
    have e1 : cat EnE.cs (M ++ [EnE.mk xi a5 c5 C]) = cat EnE.cs M ++ [.int .u32 (xi : Int),.slice a5 cl c5] := by
     rw [cat_append]
     congr 1
     simp [cat,EnE.cs,HCL.out]
    have e2 : (M ++ [EnE.mk xi a5 c5 C]).map erow ++ l = M.map erow ++ (Row 46 4 (.slice a5 cl c5) cl (ccat C) :: l) := by
     simp [erow,HCL.out]
    show Own _ _ _
    rw [e1,e2]
    have h8 := H6.out.three.tail
    exact h8.perm (List.Perm.cons _ List.perm_middle.symm)
   clear H6 H5 H5C HTW HB u0 u1 v0 v1 t0 t1 p0 p1
   go_wp2
   go_roundw
   case rel => exact ⟨j + 1,M ++ [EnE.mk xi a5 c5 C],g6,c6,by omega,by go_num,rfl,by rw [List.length_append,HM.out.1]; rfl,HM2.out a5 c5,H7.out⟩
   case measure => simp [intOf]; omega
  ·have hlt' : ¬ (j : Int) < (n : Int) := by omega
   have hjn : j = n := by omega
   subst hjn
   have HF : Hid (evs M = evs L) := by
    have := HM.out.2
    rw [List.take_of_length_le (by rw [HN.out]; exact Nat.le_refl _)] at this
    exact this
   have HE : Hid (Own w0 wr (EntsT ao cap M :: l)) := by
    have h1 := hO
    rw [← HM.out.1] at h1
    exact Own.ents h1
   clear hO
   go_wp2
   go_ret
   exact ⟨ao,cap,rfl,M,HM.out.1,HF.out,HE.out⟩
def pkAt : List Thing → Nat → Option Thing
 | [],_ => none
 | a :: _,0 => some a
 | _ :: l,n + 1 => pkAt l n
def pks (L : List Thing) : List Nat → List Thing
 | [] => []
 | i :: is => match pkAt L i with
  | some a => a :: pks L is
  | none => pks L is
def tkT : Nat → List Thing → List Thing
 | 0,_ => []
 | _,[] => []
 | n + 1,a :: l => a :: tkT n l
def dpT : Nat → List Thing → List Thing
 | 0,l => l
 | _,[] => []
 | n + 1,_ :: l => dpT n l
theorem tkdp : ∀ (n : Nat) (l : List Thing),tkT n l ++ dpT n l = l
 | 0,l => rfl
 | n + 1,[] => rfl
 | n + 1,a :: l => by show a :: (tkT n l ++ dpT n l) = _; rw [tkdp n l]
theorem pkAt_get : ∀ (L : List Thing) (i : Nat),pkAt L i = L[i]?
 | [],i => by simp [pkAt]
 | a :: l,0 => by simp [pkAt]
 | a :: l,n + 1 => by simp [pkAt,pkAt_get l n]
theorem pks_map (L : List Thing) : ∀ is : List Nat,pks L is = is.filterMap (fun i => L[i]?)
 | [] => rfl
 | i :: is => by
  rw [pks,pkAt_get,List.filterMap_cons,pks_map L is]
  cases L[i]? <;> rfl
theorem range_get (L : List Thing) : (List.range L.length).filterMap (fun i => L[i]?) = L := by
 apply List.ext_getElem?
 intro i
 induction L generalizing i with
 | nil => simp
 | cons a l ih =>
  rw [List.length_cons,List.range_succ_eq_map,List.filterMap_cons]
  simp only [List.getElem?_cons_zero]
  cases i with
  | zero => rfl
  | succ i =>
   rw [List.getElem?_cons_succ,List.getElem?_cons_succ,List.filterMap_map]
   have e : ((fun i => (a :: l)[i]?) ∘ Nat.succ) = fun i => l[i]? := by funext j; simp
   rw [e]
   exact ih i
theorem Own.dropL {w0 w : World} {A B : List Thing} (h : Own w0 w (A ++ B)) : Own w0 w A := by
 have h2 : Own w0 w (B ++ A) := h.perm List.perm_append_comm
 clear h
 induction B with
 | nil => exact h2
 | cons b B ih => exact ih h2.tail
theorem Own.sel {w0 w : World} {L : List Thing} (h : Own w0 w L) (k : Nat) (is : List Nat) (hn : is.Nodup) : Own w0 w (pks (tkT k L) is ++ dpT k L) := by
 rw [← tkdp k L] at h
 generalize dpT k L = D at *
 generalize tkT k L = X at *
 clear L
 rw [pks_map]
 have hp : (is.filterMap (fun i => X[i]?) ++ ((List.range X.length).filter (fun i => decide (i ∉ is))).filterMap (fun i => X[i]?)).Perm X := by
  have e1 : is.filterMap (fun i => X[i]?) = (is.filter (fun i => decide (i < X.length))).filterMap (fun i => X[i]?) := by
   rw [List.filterMap_filter]
   congr 1
   funext i
   by_cases c : i < X.length
   ·simp [c]
   ·simp [c]
  rw [e1,← List.filterMap_append]
  have hq : (is.filter (fun i => decide (i < X.length)) ++ (List.range X.length).filter (fun i => decide (i ∉ is))).Perm (List.range X.length) := by
   refine (List.perm_ext_iff_of_nodup ?_ List.nodup_range).2 (fun a => ?_)
   ·rw [List.nodup_append]
    refine ⟨hn.filter _,List.nodup_range.filter _,?_⟩
    rintro a ha b hb rfl
    have h1 := (List.mem_filter.1 ha).1
    have h2 := (List.mem_filter.1 hb).2
    simp at h2
    exact h2 h1
   ·rw [List.mem_append,List.mem_filter,List.mem_filter,List.mem_range]
    by_cases c : a ∈ is
    ·simp [c]
    ·simp [c]
  have := hq.filterMap (fun i => X[i]?)
  rw [range_get] at this
  exact this
 have h2 : Own w0 w ((is.filterMap (fun i => X[i]?) ++ D) ++ ((List.range X.length).filter (fun i => decide (i ∉ is))).filterMap (fun i => X[i]?)) := by
  refine h.perm ((List.Perm.append_right D hp.symm).trans ?_)
  rw [List.append_assoc,List.append_assoc]
  exact List.Perm.append_left _ List.perm_append_comm
 exact h2.dropL
example (w0 w : World) (A B C D : Thing) (l : List Thing) (h : Own w0 w (A :: B :: C :: D :: l)) : Own w0 w (D :: A :: C :: l) := h.sel 4 [3,0,2] (by decide)
end Go.Proofs.YtogmdoiecpihdaaGreatDoor
namespace Go.Proofs.YtogmdoiecpihdaaGreatDoor
open Go.RowKit Go.Maps
set_option linter.unusedVariables false
set_option maxHeartbeats 8000000
set_option maxRecDepth 100000
theorem one_flat3 (n : Nat) (S : St) (f : Nat → Nat) : ∀ u ∈ flat 3 n (one S f),u.oneCell' = true := by
 intro u hu
 unfold flat at hu
 obtain ⟨k,_,rfl⟩ := List.mem_map.1 hu
 unfold one
 split
 ·rfl
 ·split <;> rfl
theorem rtwin7 (w0 w : World) (l : List Thing) (bs : Nat) (S : St) (f : Nat → Nat) (ck : Nat) (h : Own w0 w (RSlots bs S f ck :: l)) (hn : S.n ≤ 1024) (hn1 : 0 < S.n) :
  Calls Tryz.prog 109 #[.pointer (some ⟨bs,0,none⟩)] w fun e w' => ∃ b,e = .returned (.pointer (some ⟨b,0,none⟩)) ∧ Own w0 w' (RSlots b S f ck :: RSlots bs S f ck :: l) := by
 obtain ⟨i0,hi,hz0,hz1,hz2⟩ := info_parts Tryz.infoOne
 obtain ⟨⟨g,cp⟩,h⟩ := Own.ex_iff.1 h
 have hO : Own w0 w (Cells bs #[.int .i64 (S.first : Int),.slice (some ⟨g,0,none⟩) S.n cp,.int .i64 (ck : Int)] 239 :: Row 255 3 (.slice (some ⟨g,0,none⟩) S.n cp) S.n (flat 3 S.n (one S f)) :: l) := h
 have q0 := hO.cell 0
 have q1 := hO.cell 1
 have q2 := hO.cell 2
 simp at q0 q1 q2
 have hL := (hO.drew.litRow #[] 255 3 0 (by decide) rfl)
 have HL : Hid (Own w0 _ _) := hL
 have HR : Hid (World.ownsRow _ _ _ _ _ _ _) := hL.three.row
 have p0 := hL.two.cell 0
 have p1 := hL.two.cell 1
 have p2 := hL.two.cell 2
 simp at p0 p1 p2
 have H1 : Hid (∀ u ∈ flat 3 S.n (one S f),u.oneCell' = true) := one_flat3 _ _ _
 have HS : Hid (∀ W a c b,Own w0 W (Cells b #[.int .i64 (S.first : Int),.slice a S.n c,.int .i64 (ck : Int)] 239 :: Row 255 3 (.slice a S.n c) S.n (flat 3 S.n (one S f)) :: Cells bs #[.int .i64 (S.first : Int),.slice (some ⟨g,0,none⟩) S.n cp,.int .i64 (ck : Int)] 239 :: Row 255 3 (.slice (some ⟨g,0,none⟩) S.n cp) S.n (flat 3 S.n (one S f)) :: l) → 0 < S.n → Own w0 W (RSlots b S f ck :: RSlots bs S f ck :: l)) := by
  intro W a c b hW h0
  obtain ⟨g2,c2,hv,_⟩ := row_shape hW.two.row h0
  obtain ⟨rfl,_,rfl⟩ := Value.slice.inj hv
  have h3 : Own w0 W (Cells bs #[.int .i64 (S.first : Int),.slice (some ⟨g,0,none⟩) S.n cp,.int .i64 (ck : Int)] 239 :: Row 255 3 (.slice (some ⟨g,0,none⟩) S.n cp) S.n (flat 3 S.n (one S f)) :: (Cells b #[.int .i64 (S.first : Int),.slice (some ⟨g2,0,none⟩) S.n c,.int .i64 (ck : Int)] 239 :: Row 255 3 (.slice (some ⟨g2,0,none⟩) S.n c) S.n (flat 3 S.n (one S f)) :: l)) := hW.sel 4 [2,3,0,1] (by decide)
  have h4 : Own w0 W (RSlots bs S f ck :: Cells b #[.int .i64 (S.first : Int),.slice (some ⟨g2,0,none⟩) S.n c,.int .i64 (ck : Int)] 239 :: Row 255 3 (.slice (some ⟨g2,0,none⟩) S.n c) S.n (flat 3 S.n (one S f)) :: l) := Own.ex_iff.2 ⟨(g,cp),h3⟩
  have h5 : Own w0 W ([Cells b #[.int .i64 (S.first : Int),.slice (some ⟨g2,0,none⟩) S.n c,.int .i64 (ck : Int)] 239,Row 255 3 (.slice (some ⟨g2,0,none⟩) S.n c) S.n (flat 3 S.n (one S f))] ++ RSlots bs S f ck :: l) := h4.sel 3 [1,2,0] (by decide)
  exact Own.ex_iff.2 ⟨(g2,c),h5⟩
 generalize hxs : flat 3 S.n (one S f) = xs at *
 generalize S.n = n at *
 generalize S.first = fi at *
 clear h hO hL
 go_enter Tryz.func109,Tryz.ntmps109
 go_wp2
 go_region_held3 (fun w' => w'.cell? ⟨bs,0,none⟩ = some (.int .i64 (fi : Int)) ∧ w'.cell? ⟨bs,1,none⟩ = some (.slice (some ⟨g,0,none⟩) n cp) ∧ w'.cell? ⟨bs,2,none⟩ = some (.int .i64 (ck : Int))) (go_keep)
  (first
    | (refine step_allW rfl _ _ 237 rfl 255 i0 (.agg #[.int .i64 0,.bool false,.int .i64 0]) 3 24 Tryz.underlying237 hi hz0 hz1 hz2 rfl (by decide) _ _ _ rfl _ _ _ _ rfl HL.out HR.out H1.out (by unfold maxLen; omega) (by omega) ?_
       intro g6 c6 w6 hO6
       have t0 := hO6.two.cell 0
       have t1 := hO6.two.cell 1
       have t2 := hO6.two.cell 2
       simp at t0 t1 t2
       have H6 : Hid (Own w0 w6 _) := hO6
       clear hO6))
 all_goals
  have hB := H6.out.allocC #[.int .i64 (fi : Int),.slice g6 n c6,.int .i64 (ck : Int)] 239
  have HB : Hid (Own w0 (w6.alloc (.cells #[.int .i64 (fi : Int),.slice g6 n c6,.int .i64 (ck : Int)] 239)) (Cells w6.heap.size #[.int .i64 (fi : Int),.slice g6 n c6,.int .i64 (ck : Int)] 239 :: Row 255 3 (.slice g6 n c6) n xs :: Cells bs #[.int .i64 (fi : Int),.slice (some ⟨g,0,none⟩) n cp,.int .i64 (ck : Int)] 239 :: Row 255 3 (.slice (some ⟨g,0,none⟩) n cp) n xs :: l)) := by
   show Own _ _ _
   simpa using hB
  clear hB H6 HL
  go_wp2
  go_ret
  exact ⟨_,rfl,HS.out _ g6 c6 _ HB.out hn1⟩
end Go.Proofs.YtogmdoiecpihdaaGreatDoor
