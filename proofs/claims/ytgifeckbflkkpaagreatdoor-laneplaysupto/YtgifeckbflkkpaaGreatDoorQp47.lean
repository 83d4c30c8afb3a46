/- Lanes that may be nil: their calls; same. -/
import Derived.Test.YtgifeckbflkkpaaGreatDoorQp37
import Derived.Test.YtgifeckbflkkpaaGreatDoorQp46
namespace Go.Proofs.YtgifeckbflkkpaaGreatDoor
open Go.RowKit
set_option linter.unusedVariables false
set_option maxHeartbeats 2000000
set_option maxRecDepth 100000
def bi (z : Bool) (bo : Option (Nat × List En)) : Bool := !z && bo.isSome
theorem lsend_o (w0 w : World) (htb : Tab w0) (htf : Tabf w0) (l : List Thing) (p : Option (Nat × Nat)) (c e bud k st at_ : Nat) (ss as_ : Bool) (H : List HeE) (hR : ROk k (H.map HeE.r)) (hH : HOk H) (hT : ∀ x ∈ H,ss = true ∧ x.t ≤ st) (hbud : bud ≤ 4100) (hc : c < 256) (he : e < 4294967296) (ha : at_ < 4294967296) (h : Own w0 w (LnO p c e k bud ss st as_ at_ H :: l)) (t : Nat) (ht : t < 4294967296) (an : Option Addr) (nn cn : Nat) (N : List EnE) (hQ : ∀ w',Own w0 w' l → EntsAt w' an N ∧ ∀ x ∈ H,EntsAt w' x.ao x.L) (hN : N.length = nn) (hcn : nn ≤ cn) (hmn : cn ≤ 9223372036854775807) (hIN : EIn N) (hzN : esz N ≤ 400) :
  Calls Tryz.prog 23 #[.pointer (pv p),.int .u32 (t : Int),.slice an nn cn] w fun x w' => ∃ (v : Value) (code : Nat) (P : List Nat) (ss' : Bool) (st' : Nat) (put : Bool) (y : HeE),x = .returned (.tuple #[v,.int .i64 (code : Int)]) ∧ SendO p.isNone c e bud ss st (lbo H as_ at_) t (evs N) code P ss' st' put ∧ y.t = t ∧ evs y.L = evs N ∧ HOk [y] ∧ Own w0 w' (Row 5 1 v P.length (vrow P) :: LnO p c e k bud ss' st' as_ at_ (if put = true then putH k H y else H) :: ((if put = true then [EntsT y.ao y.cap y.L] else []) ++ l)) := by
 cases p with
 | none =>
  refine (lsend_nil w t an nn cn).mono ?_
  rintro x w' ⟨rfl,hf⟩
  have hy : HOk [⟨t,an,cn,N⟩] := fun x hx => by
   rw [List.mem_singleton.1 hx]
   exact ⟨by show N.length ≤ cn; omega,hmn,hIN,hzN⟩
  exact ⟨_,10,[],ss,st,false,⟨t,an,cn,N⟩,rfl,.inl ⟨rfl,rfl,rfl,rfl,rfl,rfl⟩,rfl,rfl,hy,(h.quiet hf).nilRow _ _⟩
 | some x =>
  obtain ⟨b,rb⟩ := x
  refine (lsend w0 w htb htf l b c e bud rb k st at_ ss as_ H hR hH hT hbud hc he ha h.ofLn t ht an nn cn N hQ hN hcn hmn hIN hzN).mono ?_
  rintro x w' ⟨v,code,P,ss',st',put,y,rfl,hS,hyt,hyL,hy,hO⟩
  exact ⟨v,code,P,ss',st',put,y,rfl,.inr ⟨rfl,hS⟩,hyt,hyL,hy,(Own.toLn (hO.sel 3 [1,2,0] (by decide))).two⟩
theorem rsend_o (w0 w : World) (htb : Tab w0) (htf : Tabf w0) (l : List Thing) (p : Option Nat) (c e bud k st at_ : Nat) (ss as_ : Bool) (H : List HeE) (hR : ROk k (H.map HeE.r)) (hH : HOk H) (hT : ∀ x ∈ H,ss = true ∧ x.t ≤ st) (hbud : bud ≤ 4100) (hc : c < 256) (he : e < 4294967296) (ha : at_ < 4294967296) (h : Own w0 w (RLO p c e k bud (mrk ss st) (mrk as_ at_) H :: l)) (t : Nat) (ht : t < 4294967296) (an : Option Addr) (nn cn : Nat) (N : List EnE) (hQ : ∀ w',Own w0 w' l → EntsAt w' an N ∧ ∀ x ∈ H,EntsAt w' x.ao x.L) (hN : N.length = nn) (hcn : nn ≤ cn) (hmn : cn ≤ 9223372036854775807) (hIN : EIn N) (hzN : esz N ≤ 400) :
  Calls Tryz.prog 24 #[.pointer (qv p),.int .u32 (t : Int),.slice an nn cn] w fun x w' => ∃ (v : Value) (code : Nat) (P : List Nat) (ss' : Bool) (st' : Nat) (put : Bool) (y : HeE),x = .returned (.tuple #[v,.int .i64 (code : Int)]) ∧ SendO p.isNone c e bud ss st (lbo H as_ at_) t (evs N) code P ss' st' put ∧ y.t = t ∧ evs y.L = evs N ∧ HOk [y] ∧ Own w0 w' (Row 5 1 v P.length (vrow P) :: RLO p c e k bud (mrk ss' st') (mrk as_ at_) (if put = true then putH k H y else H) :: ((if put = true then [EntsT y.ao y.cap y.L] else []) ++ l)) := by
 cases p with
 | none =>
  refine (rsend_nil w t an nn cn).mono ?_
  rintro x w' ⟨rfl,hf⟩
  have hy : HOk [⟨t,an,cn,N⟩] := fun x hx => by
   rw [List.mem_singleton.1 hx]
   exact ⟨by show N.length ≤ cn; omega,hmn,hIN,hzN⟩
  exact ⟨_,10,[],ss,st,false,⟨t,an,cn,N⟩,rfl,.inl ⟨rfl,rfl,rfl,rfl,rfl,rfl⟩,rfl,rfl,hy,(h.quiet hf).nilRow _ _⟩
 | some b =>
  refine (rSend w0 w htb htf l b c e k bud ss st as_ at_ H hR hH hT hbud hc he ha h t ht an nn cn N hQ hN hcn hmn hIN hzN).mono ?_
  rintro x w' ⟨v,code,P,ss',st',put,y,rfl,hS,hyt,hyL,hy,hO⟩
  exact ⟨v,code,P,ss',st',put,y,rfl,.inr ⟨rfl,hS⟩,hyt,hyL,hy,hO⟩
theorem lack_o (w0 w : World) (l : List Thing) (p : Option (Nat × Nat)) (c e bud k st at_ : Nat) (ss as_ : Bool) (H : List HeE) (hR : ROk k (H.map HeE.r)) (h : Own w0 w (LnO p c e k bud ss st as_ at_ H :: l)) (t : Nat) (ht : t < 4294967296) :
  Calls Tryz.prog 25 #[.pointer (pv p),.int .u32 (t : Int)] w fun x w' => ∃ (code : Nat) (as' : Bool) (at' n : Nat),x = .returned (.int .i64 (code : Int)) ∧ AckO p.isNone as_ at_ H t code as' at' n ∧ Own w0 w' (LnO p c e k bud ss st as' at' (H.drop n) :: l) := by
 cases p with
 | none =>
  refine (lack_nil w t).mono ?_
  rintro x w' ⟨rfl,hf⟩
  exact ⟨10,as_,at_,0,rfl,.inl ⟨rfl,rfl,rfl,rfl,rfl⟩,h.quiet hf⟩
 | some x =>
  obtain ⟨b,rb⟩ := x
  refine (lack w0 w l b c e bud rb k st at_ ss as_ H hR h.ofLn t ht).mono ?_
  rintro x w' ⟨code,as',at',n,rfl,hA,hO⟩
  exact ⟨code,as',at',n,rfl,.inr ⟨rfl,hA⟩,hO.toLn⟩
theorem rack_o (w0 w : World) (l : List Thing) (p : Option Nat) (c e bud k at_ : Nat) (sm : Int) (as_ : Bool) (H : List HeE) (hR : ROk k (H.map HeE.r)) (h : Own w0 w (RLO p c e k bud sm (mrk as_ at_) H :: l)) (t : Nat) (ht : t < 4294967296) :
  Calls Tryz.prog 26 #[.pointer (qv p),.int .u32 (t : Int)] w fun x w' => ∃ (code : Nat) (as' : Bool) (at' n : Nat),x = .returned (.int .i64 (code : Int)) ∧ AckO p.isNone as_ at_ H t code as' at' n ∧ Own w0 w' (RLO p c e k bud sm (mrk as' at') (H.drop n) :: l) := by
 cases p with
 | none =>
  refine (rack_nil w t).mono ?_
  rintro x w' ⟨rfl,hf⟩
  exact ⟨10,as_,at_,0,rfl,.inl ⟨rfl,rfl,rfl,rfl,rfl⟩,h.quiet hf⟩
 | some b =>
  refine (rAck w0 w l b c e k bud sm as_ at_ H k hR h t ht).mono ?_
  rintro x w' ⟨code,as',at',n,rfl,hA,hO⟩
  exact ⟨code,as',at',n,rfl,.inr ⟨rfl,hA⟩,hO⟩
theorem lbase_o (w0 w : World) (l : List Thing) (p : Option (Nat × Nat)) (c e bud k st at_ : Nat) (ss as_ : Bool) (H : List HeE) (hR : ROk k (H.map HeE.r)) (h : Own w0 w (LnO p c e k bud ss st as_ at_ H :: l)) :
  Calls Tryz.prog 27 #[.pointer (pv p)] w fun x w' => x = .returned (.tuple #[.int .u32 ((if bi p.isNone (lbo H as_ at_) = true then at_ else 0 : Nat) : Int),.bool (bi p.isNone (lbo H as_ at_))]) ∧ Own w0 w' (LnO p c e k bud ss st as_ at_ H :: l) := by
 cases p with
 | none =>
  refine (lbase_nil w).mono ?_
  rintro x w' ⟨rfl,hf⟩
  exact ⟨rfl,h.quiet hf⟩
 | some x =>
  obtain ⟨b,rb⟩ := x
  refine (lBase w0 w l b c e bud rb k st at_ ss as_ H hR h.ofLn).mono ?_
  rintro x w' ⟨rfl,hO⟩
  refine ⟨?_,hO.toLn⟩
  have e1 : bi (some (b,rb)).isNone (lbo H as_ at_) = (lbo H as_ at_).isSome := rfl
  rw [e1]
theorem rbase_o (w0 w : World) (l : List Thing) (p : Option Nat) (c e bud k at_ : Nat) (ha : at_ < 4294967296) (sm : Int) (as_ : Bool) (H : List HeE) (hR : ROk k (H.map HeE.r)) (h : Own w0 w (RLO p c e k bud sm (mrk as_ at_) H :: l)) :
  Calls Tryz.prog 28 #[.pointer (qv p)] w fun x w' => x = .returned (.tuple #[.int .u32 ((if bi p.isNone (lbo H as_ at_) = true then at_ else 0 : Nat) : Int),.bool (bi p.isNone (lbo H as_ at_))]) ∧ Fr Nobody w w' := by
 cases p with
 | none =>
  refine (rbase_nil w).mono ?_
  rintro x w' ⟨rfl,hf⟩
  exact ⟨rfl,hf⟩
 | some b =>
  refine (rBase w0 w l b c e k bud sm as_ at_ ha H k hR h).mono ?_
  rintro x w' ⟨rfl,hf⟩
  refine ⟨?_,hf⟩
  have e1 : bi (some b).isNone (lbo H as_ at_) = (lbo H as_ at_).isSome := rfl
  rw [e1,bnum_]
theorem lheld_o (w0 w : World) (l : List Thing) (p : Option (Nat × Nat)) (c e bud k st at_ : Nat) (ss as_ : Bool) (H : List HeE) (hR : ROk k (H.map HeE.r)) (hz : p.isNone = true → H = []) (h : Own w0 w (LnO p c e k bud ss st as_ at_ H :: l)) :
  Calls Tryz.prog 30 #[.pointer (pv p)] w fun x w' => ∃ ao cap,x = .returned (.slice ao H.length cap) ∧ Own w0 w' (Row 27 1 (.slice ao H.length cap) H.length (irow .u32 (H.map HeE.t)) :: LnO p c e k bud ss st as_ at_ H :: l) := by
 cases p with
 | none =>
  have hH := hz rfl
  subst hH
  refine (lheld_nil w).mono ?_
  rintro x w' ⟨rfl,hf⟩
  exact ⟨none,0,rfl,(h.quiet hf).nilRow _ _⟩
 | some x =>
  obtain ⟨b,rb⟩ := x
  refine (lheld w0 w l b c e bud rb k st at_ ss as_ H hR h.ofLn).mono ?_
  rintro x w' ⟨ao,cap,rfl,hO⟩
  exact ⟨ao,cap,rfl,(Own.toLn (hO.sel 3 [1,2,0] (by decide))).two⟩
theorem same21_nil (w : World) (ao : Option Addr) (cap : Nat) : Calls Tryz.prog 29 #[.slice ao 0 cap,.pointer none] w fun x w' => x = .returned (.bool true) ∧ Fr Nobody w w' := by
 go_enter Tryz.func29,Tryz.ntmps29
 go_wp2
 go_ret
 exact ⟨rfl,Fr.refl _ _⟩
theorem same21 (w0 w : World) (l : List Thing) (b c e k bud : Nat) (sm am : Int) (H : List HeE) (hR : ROk k (H.map HeE.r)) (n : Nat) (hn : H.length = n) (ao : Option Addr) (cap : Nat) (X : List Nat) (hX : X = H.map HeE.t) (h : Own w0 w (Row 27 1 (.slice ao n cap) n (irow .u32 X) :: RLn b c e k bud sm am H :: l)) :
  Calls Tryz.prog 29 #[.slice ao n cap,.pointer (some ⟨b,0,none⟩)] w fun x w' => x = .returned (.bool true) ∧ Fr Nobody w w' := by
 obtain ⟨ao4,cap4,-,-,-,-,q4,-,-,hlc,hcm,hO4⟩ := RLn.cells h.two
 rw [hn] at q4
 have hle : n ≤ 64 := by have := hR.le; have := hR.k2; rw [List.length_map] at *; omega
 have HQ : Hid (∀ W,Fr Nobody w W → W.cell? ⟨b,4,none⟩ = some (.slice ao4 n cap4) ∧ ∀ (i : Nat) x,H[i]? = some x → ∃ g o g2,ao4 = some ⟨g,o,none⟩ ∧ ao = some ⟨g2,0,none⟩ ∧ W.cell? ⟨g,o + i * 2,none⟩ = some (.int .u32 (x.t : Int)) ∧ W.cell? ⟨g2,i,none⟩ = some (.int .u32 (x.t : Int))) := fun W hf => by
  refine ⟨(hf.cell (World.block_lt_of_cell? _ _ q4) (fun h => h)).trans q4,fun i x hx => ?_⟩
  have hi := (List.getElem?_eq_some_iff.1 hx).1
  obtain ⟨g,o,h1,h2,_⟩ := sent_at (hO4.quiet hf).two hx
  have hW := h.quiet hf
  obtain ⟨g2,cp,hv,_⟩ := row_shape hW.row (by omega)
  have hva := (Value.slice.inj hv).1
  subst hva
  refine ⟨g,o,g2,h1,rfl,h2,?_⟩
  rw [hW.row.cellAt i (by omega),hX,getElem?_irow,List.getElem?_map,hx]
  rfl
 have HLT : Hid (∀ (i : Nat) x,H[i]? = some x → x.t < 4294967296) := fun i x hx => hR.lt x.r (List.mem_map.2 ⟨x,List.mem_of_getElem? hx,rfl⟩)
 have HL : Hid (H.length = n) := hn
 have hnn : ((n : Int) != (n : Int)) = false := by simp
 clear h hR hn hlc hcm hO4 hX
 go_enter Tryz.func29,Tryz.ntmps29
 go_wp2
 go_loopw [21] (fun cc wr => ∃ j : Nat,j ≤ n ∧ cc = .int .i64 j ∧ Fr Nobody w wr) (fun cc _ => n - (intOf cc).toNat)
 case atStart => exact ⟨0,Nat.zero_le _,rfl,Fr.refl _ _⟩
 case round =>
  obtain ⟨j,hj,rfl,hf⟩ := hrel
  clear q4
  obtain ⟨p4,hcell⟩ := HQ.out wr hf
  have HF : Hid (Fr Nobody w wr) := hf
  clear hf
  by_cases hlt : j < n
  ·obtain ⟨x,hx⟩ : ∃ x,H[j]? = some x := ⟨_,List.getElem?_eq_getElem (by rw [HL.out]; exact hlt)⟩
   obtain ⟨g,o,g2,rfl,rfl,c0,c1⟩ := hcell j x hx
   have hxt := HLT.out j x hx
   have hlt' : (j : Int) < (n : Int) := by omega
   generalize x.t = xt at *
   have hxx : ((xt : Int) != (xt : Int)) = false := by simp
   clear hx hcell
   go_wp2
   go_region_law (fail)
   all_goals
    go_wp2
    go_roundw
    case rel => exact ⟨j + 1,by omega,by go_num,HF.out.drew⟩
    case measure => simp [intOf]; omega
  ·have hlt' : ¬ (j : Int) < (n : Int) := by omega
   clear hcell
   go_wp2
   go_ret
   exact ⟨rfl,HF.out⟩
theorem same_o21 (w0 w : World) (l : List Thing) (q : Option Nat) (c e k bud : Nat) (sm am : Int) (H : List HeE) (hz : q.isNone = true → H = []) (hR : ROk k (H.map HeE.r)) (n : Nat) (hn : H.length = n) (ao : Option Addr) (cap : Nat) (X : List Nat) (hX : X = H.map HeE.t) (h : Own w0 w (Row 27 1 (.slice ao n cap) n (irow .u32 X) :: RLO q c e k bud sm am H :: l)) :
  Calls Tryz.prog 29 #[.slice ao n cap,.pointer (qv q)] w fun x w' => x = .returned (.bool true) ∧ Fr Nobody w w' := by
 cases q with
 | none =>
  have hH := hz rfl
  subst hH
  have hn0 : n = 0 := hn.symm
  subst hn0
  exact same21_nil w ao cap
 | some b => exact same21 w0 w l b c e k bud sm am H hR n hn ao cap X hX h
end Go.Proofs.YtgifeckbflkkpaaGreatDoor
