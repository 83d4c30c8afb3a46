/- Scripts of a lane that come in; New of whatever arguments; what the two lanes have in common. -/
import Derived.Test.YtgifeckbflkkpaaGreatDoorQp37
import Derived.Test.YtgifeckbflkkpaaGreatDoorQp35
import Derived.Test.YtgifeckbflkkpaaGreatDoorQp10
namespace Go.Proofs.YtgifeckbflkkpaaGreatDoor
open Go.ChangeShapes Go.WideShapes Go.ChangeAt Go.RowKit Go.Deep
set_option linter.unusedVariables false
set_option maxHeartbeats 2000000
set_option maxRecDepth 100000
structure OpL where
 d : Nat
 t : Nat
 ao : Option Addr
 cap : Nat
 L : List EnE
def OpLI (W : World) (cs : List Value) (x : OpL) : Prop := cs = [.int .u8 (x.d : Int),.int .u32 (x.t : Int),.slice x.ao x.L.length x.cap] ∧ x.d < 256 ∧ x.t < 4294967296 ∧ IsEnts W x.ao x.L.length x.cap x.L
theorem cellsOpL : Tryz.prog.cellsOf 53 = 3 := by kernel_rfl
theorem cellsOpB : Tryz.prog.cellsOf 5 = 1 := by kernel_rfl
theorem cellsOpU : Tryz.prog.cellsOf 27 = 1 := by kernel_rfl
theorem triL {β : Type} {l : List β} (h : l.length = 3) : ∃ a b c,l = [a,b,c] := by
 match l,h with
 | [a,b,c],_ => exact ⟨a,b,c,rfl⟩
theorem okL32 {b : Int} (wb : Lit.wf (.int .u32 b) = true) : ∃ n : Nat,b = n ∧ n < 4294967296 := by
 have hb : 0 ≤ b ∧ b ≤ 4294967295 := by simpa [Lit.wf,IntKind.min,IntKind.max,IntKind.signed,IntKind.bits] using wb
 obtain ⟨bn,rfl⟩ := Int.eq_ofNat_of_zero_le hb.1
 exact ⟨bn,rfl,by omega⟩
theorem okL8 {b : Int} (wb : Lit.wf (.int .u8 b) = true) : ∃ n : Nat,b = n ∧ n < 256 := by
 have hb : 0 ≤ b ∧ b ≤ 255 := by simpa [Lit.wf,IntKind.min,IntKind.max,IntKind.signed,IntKind.bits] using wb
 obtain ⟨bn,rfl⟩ := Int.eq_ofNat_of_zero_le hb.1
 exact ⟨bn,rfl,by omega⟩
theorem opL_is {H : Type} {enc : TypeId × Value → H} {W : World} (fuel : Nat) (cs : List Value) (x : DataW H × List MemPlace)
  (h : DataW.trod enc Tryz.prog W 0 (fun _ => true) true fuel 53 cs = some x) : ∃ e,OpLI W cs e ∧ esz e.L ≤ Rows.uptoBulk x.1 := by
 obtain ⟨xs,n,_,hx,hl,hlen,hf⟩ := DataW.trod_struct Tryz.underlying53 h
 rw [cellsOpL] at hl
 obtain ⟨c0,c1,c2,rfl⟩ := triL hl
 obtain ⟨y0,y1,y2,rfl⟩ := triL hlen
 have h0 := hf 0 _ rfl
 have h1 := hf 1 _ rfl
 have h2 := hf 2 _ rfl
 simp [cellsOpB,cellsOpU,cellsEntsS] at h0 h1 h2
 obtain ⟨b,b0,_,wb⟩ := DataW.trod_int Tryz.underlying5 h0
 obtain ⟨u,u0,_,wu⟩ := DataW.trod_int Tryz.underlying27 h1
 simp at b0 u0
 subst b0 u0
 obtain ⟨bn,rfl,hb⟩ := okL8 wb
 obtain ⟨un,rfl,hu⟩ := okL32 wu
 obtain ⟨a,l,c,hv⟩ : ∃ a l c,c2 = .slice a l c := by
  rcases open_slice Tryz.underlying23 h2 with ⟨hc,_⟩ | ⟨a,l,c,m,n,D,Pl,hc,_⟩
  ·simp at hc; exact ⟨_,_,_,hc⟩
  ·simp at hc; exact ⟨_,_,_,hc⟩
 subst hv
 obtain ⟨d0,p0⟩ := y2
 obtain ⟨M,hM,hz⟩ := open_ents (d := d0) (p := p0) ⟨_,by simpa [Value.cells] using h2⟩
 have hl := hM.1
 subst hl
 refine ⟨⟨bn,un,a,c,M⟩,⟨rfl,hb,hu,hM⟩,?_⟩
 subst hx
 show _ ≤ Rows.uptoBulk (.agg [y0.1,y1.1,d0])
 rw [bulk_agg]
 have := bulk_in (d := d0) (m := [y0.1,y1.1,d0]) (by simp)
 show esz M ≤ _
 omega
def IsOpLs (w : World) (ao : Option Addr) (len cap : Nat) (Q : List OpL) : Prop := Q.length = len ∧ len ≤ cap ∧ cap ≤ maxLen ∧ RowsAt (OpLI w) 3 w ao Q
theorem open_opls {H : Type} {enc : TypeId × Value → H} {W : World} {ao : Option Addr} {len cap : Nat} {d : DataW H} {p : List MemPlace}
  (h : DataW.Trod enc Tryz.prog W 0 (fun _ => true) true 44 (.slice ao len cap) d p) : ∃ Q,IsOpLs W ao len cap Q ∧ (Q.map (fun x => esz x.L)).sum ≤ Rows.uptoBulk d := by
 haveI : Inhabited OpL := ⟨⟨0,0,none,0,[]⟩⟩
 obtain ⟨Q,h1,h2,h3,h4,h5⟩ := open_rowsB 3 Tryz.underlying44 cellsOpL (by decide) (OpLI W) (fun x => esz x.L) (fun fuel cs x hx => opL_is fuel cs x hx) h
 exact ⟨Q,⟨h1,h2,h3,h4⟩,h5⟩
theorem IsOpLs.at {w : World} {ao : Option Addr} {len cap : Nat} {Q : List OpL} (h : IsOpLs w ao len cap Q) {j : Nat} {x : OpL} (hx : Q[j]? = some x) : ∃ g o,ao = some ⟨g,o,none⟩ ∧ w.cell? ⟨g,o + j * 3,none⟩ = some (.int .u8 (x.d : Int)) ∧ w.cell? ⟨g,o + j * 3 + 1,none⟩ = some (.int .u32 (x.t : Int)) ∧ w.cell? ⟨g,o + j * 3 + 2,none⟩ = some (.slice x.ao x.L.length x.cap) ∧ x.d < 256 ∧ x.t < 4294967296 ∧ IsEnts w x.ao x.L.length x.cap x.L := by
 obtain ⟨_,_,_,h4⟩ := h
 rcases h4 with h | ⟨g,o,ha,hc⟩
 ·subst h; simp at hx
 ·obtain ⟨cs,⟨rfl,hd,ht,h2⟩,_,h3⟩ := hc j x hx
  have q0 := h3 0 (by decide)
  have q1 := h3 1 (by decide)
  have q2 := h3 2 (by decide)
  exact ⟨g,o,ha,by simpa using q0,by simpa using q1,by simpa using q2,hd,ht,h2⟩
theorem args21 (c0 e0 : Nat) (hc : c0 < 256) (he : e0 < 4294967296) (k0 b0 : Int) : ∃ (z : Bool) (c e k bud : Nat),1 ≤ k ∧ k ≤ 64 ∧ bud ≤ 4100 ∧ c < 256 ∧ e < 4294967296 ∧ ((z = false ∧ c0 = c ∧ e0 = e ∧ k0 = (k : Int) ∧ b0 = (bud : Int) ∧ c < 16 ∧ e ≠ 0 ∧ 1 ≤ bud) ∨ (z = true ∧ (16 ≤ c0 ∨ e0 = 0 ∨ k0 < 1 ∨ 64 < k0 ∨ b0 < 1 ∨ 4100 < b0))) := by
 by_cases h : 16 ≤ c0 ∨ e0 = 0 ∨ k0 < 1 ∨ 64 < k0 ∨ b0 < 1 ∨ 4100 < b0
 ·exact ⟨true,0,1,1,1,by decide,by decide,by decide,by decide,by decide,.inr ⟨rfl,h⟩⟩
 ·exact ⟨false,c0,e0,k0.toNat,b0.toNat,by omega,by omega,by omega,hc,he,.inl ⟨rfl,rfl,rfl,by omega,by omega,by omega,by omega,by omega⟩⟩
theorem lnew_bad (w : World) (c0 e0 : Nat) (k0 b0 : Int) (h : 16 ≤ c0 ∨ e0 = 0 ∨ k0 < 1 ∨ 64 < k0 ∨ b0 < 1 ∨ 4100 < b0) :
  Calls Tryz.prog 20 #[.int .u8 (c0 : Int),.int .u32 (e0 : Int),.int .i64 k0,.int .i64 b0] w fun x w' => x = .returned (.tuple #[.pointer none,.int .i64 1]) ∧ Fr Nobody w w' := by
 by_cases h1 : 16 ≤ c0
 ·have g1 : (16 : Int) ≤ (c0 : Int) := by omega
  clear h h1
  go_enter Tryz.func20,Tryz.ntmps20
  go_wp2
  go_ret2
  exact ⟨rfl,Fr.refl _ _⟩
 ·have g1 : ¬ (16 : Int) ≤ (c0 : Int) := by omega
  by_cases h2 : e0 = 0
  ·subst h2
   clear h h1
   go_enter Tryz.func20,Tryz.ntmps20
   go_wp2
   go_ret2
   exact ⟨rfl,Fr.refl _ _⟩
  ·have g2 : ((e0 : Int) == 0) = false := by rw [beq_eq_false_iff_ne]; omega
   by_cases h3 : b0 < 1
   ·clear h h1 h2
    go_enter Tryz.func20,Tryz.ntmps20
    go_wp2
    go_ret2
    exact ⟨rfl,Fr.refl _ _⟩
   ·by_cases h4 : 4100 < b0
    ·clear h h1 h2
     go_enter Tryz.func20,Tryz.ntmps20
     go_wp2
     go_ret2
     exact ⟨rfl,Fr.refl _ _⟩
    ·have HN : Hid (Calls _ _ _ _ _) := newnoe w k0 (by omega)
     clear h h1 h2
     go_enter Tryz.func20,Tryz.ntmps20
     go_wp2_with fail
     refine HN.out.mono ?_
     rintro x w1 ⟨rfl,rfl⟩
     clear HN
     go_wp2
     go_ret2
     exact ⟨rfl,Fr.refl _ _⟩
theorem rnew_bad (w : World) (c0 e0 : Nat) (k0 b0 : Int) (h : 16 ≤ c0 ∨ e0 = 0 ∨ k0 < 1 ∨ 64 < k0 ∨ b0 < 1 ∨ 4100 < b0) :
  Calls Tryz.prog 21 #[.int .u8 (c0 : Int),.int .u32 (e0 : Int),.int .i64 k0,.int .i64 b0] w fun x w' => x = .returned (.tuple #[.pointer none,.int .i64 1]) ∧ Fr Nobody w w' := by
 by_cases h1 : 16 ≤ c0
 ·have g1 : (15 : Int) < (c0 : Int) := by omega
  clear h h1
  go_enter Tryz.func21,Tryz.ntmps21
  go_wp2
  go_ret2
  exact ⟨rfl,Fr.refl _ _⟩
 ·have g1 : ¬ (15 : Int) < (c0 : Int) := by omega
  by_cases h2 : e0 = 0
  ·subst h2
   clear h h1
   go_enter Tryz.func21,Tryz.ntmps21
   go_wp2
   go_ret2
   exact ⟨rfl,Fr.refl _ _⟩
  ·have g2 : ((e0 : Int) == 0) = false := by rw [beq_eq_false_iff_ne]; omega
   by_cases h5 : k0 < 1
   ·clear h h1 h2
    go_enter Tryz.func21,Tryz.ntmps21
    go_wp2
    go_ret2
    exact ⟨rfl,Fr.refl _ _⟩
   ·by_cases h6 : 64 < k0
    ·clear h h1 h2
     go_enter Tryz.func21,Tryz.ntmps21
     go_wp2
     go_ret2
     exact ⟨rfl,Fr.refl _ _⟩
    ·by_cases h3 : b0 < 1
     ·clear h h1 h2
      go_enter Tryz.func21,Tryz.ntmps21
      go_wp2
      go_ret2
      exact ⟨rfl,Fr.refl _ _⟩
     ·have h4 : 4100 < b0 := by omega
      clear h h1 h2
      go_enter Tryz.func21,Tryz.ntmps21
      go_wp2
      go_ret2
      exact ⟨rfl,Fr.refl _ _⟩
def RB (w : World) (p : Option (Nat × Nat)) (q : Option Nat) (c e k bud : Nat) (wc : World) : Prop := ∃ (ss : Bool) (st : Nat) (as_ : Bool) (at_ : Nat) (H G : List HeE) (X : List Thing),at_ < 4294967296 ∧ LnI w X k H ss st ∧ LnI w X k G ss st ∧ tv H = tv G ∧ (p.isNone = true → H = []) ∧ Own w wc (LnO p c e k bud ss st as_ at_ H :: RLO q c e k bud (mrk ss st) (mrk as_ at_) G :: X)
theorem LnI.onto {w0 : World} {X Y : List Thing} {k : Nat} {H : List HeE} {ss : Bool} {st : Nat} (h : LnI w0 X k H ss st) (f : ∀ W,Own w0 W Y → Own w0 W X) : LnI w0 Y k H ss st := ⟨fun W hW => h.cs W (f W hW),h.rk,h.ok,h.tk⟩
theorem LnI.send {w0 : World} {X : List Thing} {k : Nat} {H : List HeE} {ss : Bool} {st : Nat} (h : LnI w0 X k H ss st) {z : Bool} {c e bud t : Nat} {bo : Option (Nat × List En)} {N : List En} {code st' : Nat} {P : List Nat} {ss' put : Bool} (hS : SendO z c e bud ss st bo t N code P ss' st' put) {y : HeE} (hy : HOk [y]) (hyt : y.t = t) (ht : t < 4294967296) : LnI w0 ((if put = true then [EntsT y.ao y.cap y.L] else []) ++ X) k (if put = true then putH k H y else H) ss' st' := by
 rcases hS.up with ⟨rfl,⟨rfl,rfl⟩ | ⟨h0,rfl,rfl⟩⟩ | ⟨rfl,h0,rfl,rfl⟩
 ·exact h
 ·exact h.up h0
 ·have := (h.put (y := y) hy (by rw [hyt]; exact h0) (by rw [hyt]; exact ht)).1
  rw [hyt] at this
  exact this
theorem Own.mid3 {w0 w : World} {P Q A B C : Thing} {E X : List Thing} (h : Own w0 w (P :: Q :: (E ++ (A :: B :: C :: X)))) : Own w0 w (P :: Q :: A :: B :: C :: (E ++ X)) := h.perm (by
 have h2 := (List.perm_append_comm (l₁ := E) (l₂ := [A,B,C])).append_right X
 rw [List.append_assoc] at h2
 exact (h2.cons Q).cons P)
theorem Own.mid4 {w0 w : World} {P Q A B C D : Thing} {E X : List Thing} (h : Own w0 w (P :: Q :: (E ++ (A :: B :: C :: D :: X)))) : Own w0 w (P :: Q :: A :: B :: C :: D :: (E ++ X)) := h.perm (by
 have h2 := (List.perm_append_comm (l₁ := E) (l₂ := [A,B,C,D])).append_right X
 rw [List.append_assoc] at h2
 exact (h2.cons Q).cons P)
theorem cat_setE (L : List EnE) (j r : Nat) (x y : EnE) (hx : L[j]? = some x) (v : Value) (hy : y.cs = x.cs.set r v) (hr : r < 2) : cat EnE.cs (L.set j y) = (cat EnE.cs L).set (j * 2 + r) v := by
 induction L generalizing j with
 | nil => simp at hx
 | cons z t ih =>
  have e1 : ∀ (A : List EnE) (q : EnE),cat EnE.cs (q :: A) = q.cs ++ cat EnE.cs A := fun _ _ => by simp [cat]
  cases j with
  | zero =>
   simp at hx
   subst hx
   rw [List.set_cons_zero,e1,e1,hy,Nat.zero_mul,Nat.zero_add,List.set_append]
   rw [if_pos (by simpa [EnE.cs] using hr)]
  | succ j =>
   have ih := ih j (by simpa using hx)
   rw [List.set_cons_succ,e1,e1,ih,List.set_append,if_neg (by simp [EnE.cs]; omega)]
   congr 2
   simp [EnE.cs]
   omega
theorem ccat_seta (C : List Cp) (k : Nat) (q : Cp) (hq : C[k]? = some q) (u : Int) : ccat (C.set k { q with a := u }) = (ccat C).set (k * 4 + 1) (.int .i32 u) := by
 induction C generalizing k with
 | nil => simp at hq
 | cons z t ih =>
  have e1 : ∀ (A : List Cp) (y : Cp),ccat (y :: A) = y.cs ++ ccat A := fun _ _ => by simp [ccat,cat]
  cases k with
  | zero =>
   simp at hq
   subst hq
   rw [List.set_cons_zero,e1,e1]
   simp [Cp.cs]
  | succ k =>
   have ih := ih k (by simpa using hq)
   rw [List.set_cons_succ,e1,e1,ih,List.set_append,if_neg (by simp [Cp.cs]; omega)]
   congr 2
   simp [Cp.cs]
   omega
theorem Own.entCp {w0 w : World} {l : List Thing} {ao : Option Addr} {cap gc : Nat} {L : List EnE} (h : Own w0 w (EntsT ao cap L :: l)) {j k : Nat} {x : EnE} {q : Cp} (hx : L[j]? = some x) (hq : x.C[k]? = some q) (hg : x.ao = some ⟨gc,0,none⟩) (u : Int) :
  Own w0 (w.setCell ⟨gc,k * 4 + 1,none⟩ (.int .i32 u)) (EntsT ao cap (L.set j { x with C := x.C.set k { q with a := u } }) :: l) := by
 obtain ⟨_,h1⟩ := Own.ex_iff.1 h
 have hj := (List.getElem?_eq_some_iff.1 hx)
 have eL : L = L.take j ++ x :: L.drop (j + 1) := by rw [← hj.2,← List.drop_eq_getElem_cons hj.1,List.take_append_drop]
 have eS : ∀ y,L.set j y = L.take j ++ y :: L.drop (j + 1) := fun y => by rw [List.set_eq_take_append_cons_drop,if_pos hj.1]
 have hp : ∀ y : EnE,(Row 60 2 (.slice ao L.length cap) L.length (cat EnE.cs L) :: (L.set j y).map erow ++ l).Perm (erow y :: (Row 60 2 (.slice ao L.length cap) L.length (cat EnE.cs L) :: ((L.take j).map erow ++ ((L.drop (j + 1)).map erow ++ l)))) := fun y => by
  rw [eS y]
  have e : Row 60 2 (.slice ao L.length cap) L.length (cat EnE.cs L) :: (L.take j ++ y :: L.drop (j + 1)).map erow ++ l = (Row 60 2 (.slice ao L.length cap) L.length (cat EnE.cs L) :: (L.take j).map erow) ++ erow y :: ((L.drop (j + 1)).map erow ++ l) := by simp
  rw [e]
  exact List.perm_middle
 have hself : L.set j x = L := by
  rw [eS x]; exact eL.symm
 have hp0 := hp x
 rw [hself] at hp0
 have h2 : Own w0 w (erow x :: _) := h1.perm hp0
 have h2' : Own w0 w (Row 63 4 (.slice (some ⟨gc,0,none⟩) x.C.length x.cap) x.C.length (ccat x.C) :: (Row 60 2 (.slice ao L.length cap) L.length (cat EnE.cs L) :: ((L.take j).map erow ++ ((L.drop (j + 1)).map erow ++ l)))) := by
  have e : erow x = Row 63 4 (.slice (some ⟨gc,0,none⟩) x.C.length x.cap) x.C.length (ccat x.C) := by unfold erow; rw [hg]
  rw [← e]; exact h2
 have h3 := Own.setR h2' (k * 4 + 1) (.int .i32 u)
 rw [← ccat_seta x.C k q hq u] at h3
 have h4 : Own w0 (w.setCell ⟨gc,k * 4 + 1,none⟩ (.int .i32 u)) (erow { x with C := x.C.set k { q with a := u } } :: (Row 60 2 (.slice ao L.length cap) L.length (cat EnE.cs L) :: ((L.take j).map erow ++ ((L.drop (j + 1)).map erow ++ l)))) := by
  unfold erow
  simp only [List.length_set,hg]
  exact h3
 have h5 := h4.perm (hp { x with C := x.C.set k { q with a := u } }).symm
 have e1 : cat EnE.cs (L.set j { x with C := x.C.set k { q with a := u } }) = cat EnE.cs L := by
  have e : ({ x with C := x.C.set k { q with a := u } } : EnE).cs = x.cs := by simp [EnE.cs]
  have e2 := cat_setE L j 0 x { x with C := x.C.set k { q with a := u } } hx (.int .u32 (x.id : Int)) (by rw [e]; simp [EnE.cs]) (by decide)
  rw [e2,Nat.add_zero]
  apply List.ext_getElem?
  intro i
  rw [List.getElem?_set]
  split
  ·rename_i hij
   subst hij
   split
   ·have := cat_at EnE.cs 2 (fun _ => rfl) L j 0 x hx (by decide)
    rw [Nat.add_zero] at this
    rw [this]; rfl
   ·rename_i hl
    rw [List.getElem?_eq_none (Nat.le_of_not_lt hl)]
  ·rfl
 have e2 : (L.set j { x with C := x.C.set k { q with a := u } }).length = L.length := by simp
 refine Own.ents ?_
 rw [e1,e2]
 exact h5
theorem Own.entRow {w0 w : World} {l : List Thing} {ao : Option Addr} {cap : Nat} {L : List EnE} (h : Own w0 w (EntsT ao cap L :: l)) {j : Nat} {x : EnE} (hx : L[j]? = some x) : w.ownsRow 0 63 4 (.slice x.ao x.C.length x.cap) x.C.length (ccat x.C) := by
 obtain ⟨_,h1⟩ := Own.ex_iff.1 h
 obtain ⟨L1,L2,rfl⟩ := List.append_of_mem (List.mem_of_getElem? hx)
 have h2 : Own w0 w (erow x :: (L1.map erow ++ (L2.map erow ++ l))) := by
  have h3 : Own w0 w ((L1 ++ x :: L2).map erow ++ l) := h1.tail
  refine h3.perm ?_
  have e : (L1 ++ x :: L2).map erow ++ l = L1.map erow ++ (erow x :: (L2.map erow ++ l)) := by simp
  rw [e]
  exact List.perm_middle
 exact h2.row
end Go.Proofs.YtgifeckbflkkpaaGreatDoor
namespace Go.Proofs.YtgifeckbflkkpaaGreatDoor
open Go.RowKit
set_option linter.unusedVariables false
set_option maxHeartbeats 2000000
set_option maxRecDepth 100000
theorem Box.grown {B : Nat} {w w' : World} {b k : Nat} {F : Nat → Int} {v : Value} {L : List Bool} (h : Box w b k F) (hv : Bo B w v L) (hg : w.grownBy w' v.ownBlock) : Box w' b k F := by
 refine (hg.block b (Array.getElem?_eq_some_iff.1 h).1 ?_).trans h
 intro e
 rcases hv.2 with ⟨rfl,_⟩ | ⟨g',cap,cur,rfl,_,hgg,_⟩
 ·simp [Value.ownBlock] at e
 ·simp [Value.ownBlock] at e
  subst e
  unfold Box at h
  rw [hgg] at h
  simp at h
theorem rputC_ok (w : World) (k : Nat) (hk : k < 256) (F : Nat → Int) (h0 : chk k F = 0) :
  Calls Tryz.prog 124 #[.agg (cmp k F)] w fun e w' => ∃ v,e = .returned (.tuple #[v,.int .i64 0]) ∧ Bo w.heap.size w' v (cb k F (cnt k)) ∧ Fr Nobody w w' := by
 obtain ⟨h6,hr,_⟩ := chk_ok k F h0
 have hc := cnt_le k
 have HB : Hid (Box (w.alloc (.cells (cmp k F) 63)) w.heap.size k F) := Box.new w k F
 have HF : Hid (Fr Nobody w (w.alloc (.cells (cmp k F) 63))) := (Fr.refl _ _).alloc _
 have K : Hid (∀ w,Calls Tryz.prog 107 #[.agg (cmp k F)] w fun e w' => e = .returned (.int .i64 0) ∧ Fr Nobody w w') := fun w => by have := rcheck_any w k hk F; rw [h0] at this; exact this
 have C : Hid (∀ w,_) := fun w => rcount_any w k hk
 have R : Hid (∀ w j,j < cnt k → _) := fun w j hj => rrange_ok w k j hj
 have RB : Hid (∀ j,j < cnt k → (-524288 ≤ lo k j ∧ lo k j ≤ 1 ∧ 7 ≤ hi k j ∧ hi k j ≤ 524287) ∧ lo k j ≤ F j ∧ F j ≤ hi k j) := fun j hj => ⟨rng_ok k j hj,hr j hj⟩
 have I : Hid (∀ w j,j < cnt k → Calls Tryz.prog 123 #[.int .i64 (F j),.int .i64 (lo k j),.int .i64 (hi k j)] w fun e w' => ∃ v,e = .returned (.tuple #[v,.int .i64 0]) ∧ Bo w.heap.size w' v (fb k F j) ∧ Fr Nobody w w') := fun w j hj => by
  obtain ⟨l0,l1,l2,l3⟩ := rng_ok k j hj
  have := hr j hj
  exact rin_ok (F j) (lo k j) (hi k j) (F j - lo k j).toNat w (by omega) (by omega) (by omega) this.1 this.2
 have HL : Hid (∀ j,j ≤ cnt k → (cb k F j).length ≤ 60) := fun j hj => by rw [length_cb]; have := bsum_le k j hj; omega
 have HL2 : Hid (∀ j,j < cnt k → (fb k F j).length ≤ 60) := fun j hj => by rw [length_fb]; have := wd_le k j hj; omega
 clear h0 hr
 generalize cnt k = c at *
 unfold cmp at *
 go_enter Tryz.func124,Tryz.ntmps124
 go_wp2_with fail
 refine (K.out _).mono ?_
 rintro e w1 ⟨rfl,hf1⟩
 have F1 : Hid (Fr Nobody w w1) := HF.out.trans hf1
 have B1 : Hid (Box w1 w.heap.size k F) := Box.quiet HB.out hf1
 have c0 := B1.out.kind
 clear hf1
 go_wp2_with fail
 refine (C.out _).mono ?_
 rintro e w2 ⟨rfl,hf2⟩
 have F2 : Hid (Fr Nobody w w2) := F1.out.trans hf2
 have B2 : Hid (Box w2 w.heap.size k F) := B1.out.quiet hf2
 clear hf2 c0 F1 B1 HB HF K
 go_wp2
 go_loopw [5,20] (fun u a wr => ∃ j : Nat,j ≤ c ∧ a = .int .i64 j ∧ Bo w.heap.size wr u (cb k F j) ∧ Box wr w.heap.size k F ∧ Fr Nobody w wr) (fun _ a _ => c - (intOf a).toNat)
 case atStart => exact ⟨0,by omega,rfl,Bo.nil _ _,B2.out,F2.out⟩
 case round =>
  obtain ⟨j,hj,rfl,hu,hb,hf⟩ := hrel
  have U : Hid (Bo w.heap.size wr u5 (cb k F j)) := hu
  have B3 : Hid (Box wr w.heap.size k F) := hb
  have F3 : Hid (Fr Nobody w wr) := hf
  clear hu hb hf B2 F2
  by_cases hlt : j < c
  ·have RJ : Hid (∀ w,_) := fun w => R.out w j hlt
   have IJ : Hid (∀ w,_) := fun w => I.out w j hlt
   obtain ⟨⟨l0,l1,l2,l3⟩,r0,r1⟩ := RB.out j hlt
   have hl1 := HL.out j (by omega)
   have hl2 := HL2.out j hlt
   have HCB : Hid (cb k F (j + 1) = cb k F j ++ fb k F j) := rfl
   have c0 := B3.out.kind
   generalize lo k j = x at *
   generalize hi k j = y at *
   generalize fb k F j = M at *
   generalize cb k F j = L at *
   go_wp2_with fail
   refine (RJ.out _).mono ?_
   rintro e w3 ⟨rfl,hf3⟩
   have F4 : Hid (Fr Nobody wr w3) := hf3
   have c1 := (B3.out.quiet hf3).at j (by omega)
   clear hf3
   generalize F j = f at *
   go_wp2_with fail
   refine (IJ.out _).mono ?_
   rintro e w4 ⟨v4,rfl,hV4,hf4⟩
   have F5 : Hid (Fr Nobody wr w4) := F4.out.trans hf4
   have V4 : Hid (Bs w4 v4 M) := hV4.bs
   have U4 : Hid (Bo w.heap.size w4 u5 L) := U.out.quiet F5.out
   have B4 : Hid (Box w4 w.heap.size k F) := B3.out.quiet F5.out
   have F6 : Hid (Fr Nobody w w4) := F3.out.trans F5.out
   clear hV4 hf4 c0 c1
   go_wp2_with (at_builtin; refine append_bits rfl _ _ rfl w.heap.size _ _ L M U4.out V4.out (by omega) (by omega) F6.out.size rfl rfl ?_)
   intro v5 w5 hU5 hg5
   have U5 : Hid (Bo w.heap.size w5 v5 (cb k F (j + 1))) := by rw [HCB.out]; exact hU5
   have B5 : Hid (Box w5 w.heap.size k F) := B4.out.grown U4.out hg5
   have F7 : Hid (Fr Nobody w w5) := F6.out.grown hg5 (fun q hq => .inr (World.ownsRow.lt U4.out q hq).1)
   clear hU5 hg5
   go_wp2
   go_roundw
   case rel => exact ⟨j + 1,by omega,by go_num,U5.out,B5.out,F7.out⟩
   case measure => simp [intOf]; omega
  ·have e : j = c := by omega
   subst e
   go_wp2
   go_ret2
   exact ⟨_,rfl,U.out,F3.out⟩
end Go.Proofs.YtgifeckbflkkpaaGreatDoor
