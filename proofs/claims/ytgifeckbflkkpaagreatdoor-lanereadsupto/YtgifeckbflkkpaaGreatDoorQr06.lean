/- The document's side of layer 2: GetVar. -/
import Derived.Test.YtgifeckbflkkpaaGreatDoorQr05
import Derived.Deep.RegionWith
import Derived.Test.YtgifeckbflkkpaaGreatDoorQr04
import Derived.Test.YtgifeckbflkkpaaGreatDoorQr03
import Derived.Deep.RegionHeld3
namespace Go.Proofs.YtgifeckbflkkpaaGreatDoor
open Go.RowKit
set_option linter.unusedVariables false
set_option maxHeartbeats 4000000
set_option maxRecDepth 100000
def GvRest (w w' : World) (u : Value) (M : List Bool) : Prop := Bs w' u M ∧ Fr Nobody w w'
theorem Bs.cell {w : World} {ao : Option Addr} {cap : Nat} {L : List Bool} (h : Bs w (.slice ao L.length cap) L) {i : Nat} {b : Bool} (hb : L[i]? = some b) : ∃ g o,ao = some ⟨g,o,none⟩ ∧ w.cell? ⟨g,o + i,none⟩ = some (.bool b) := by
 rcases h with ⟨_,h0⟩ | ⟨g,o,cap',cur,hv,_,hg,hc⟩
 ·subst h0; simp at hb
 ·simp only [Value.slice.injEq] at hv
  refine ⟨g,o,hv.1,?_⟩
  rw [cell_of_row w g _ cur 4 (0,0) hg]
  exact hc i (.bool b) (by simp [brow,hb])
theorem rgetVar_any (w : World) (v : Value) (L : List Bool) (h : Bs w v L) (hL : L.length ≤ 100000) :
  Calls Tryz.prog 104 #[v] w fun e w' => ∃ u,e = .returned (.tuple #[.int .u64 ((gv L).2.1 : Nat),u,.int .i64 (gv L).1]) ∧ GvRest w w' u (L.drop (gv L).2.2) := by
 obtain ⟨ao,cap,rfl⟩ := h.shape
 have H : Hid (Bs w (.slice ao L.length cap) L) := h
 have hcap : L.length ≤ cap := by
  rcases h with ⟨hv,h0⟩ | ⟨g,o,cap',cur,hv,hc,_⟩
  ·subst h0; exact Nat.zero_le _
  ·simp only [Value.slice.injEq] at hv; omega
 obtain ⟨r,hr⟩ : ∃ r,r = gv L := ⟨_,rfl⟩
 rw [← hr]
 have HR : Hid (r = gvAux 16 0 0 L) := hr
 clear h hr
 obtain ⟨rc,rv,rn⟩ := r
 go_enter Tryz.func104,Tryz.ntmps104
 go_wp2
 go_loopw [5] (fun c wr => ∃ i : Nat,i ≤ 15 ∧ c = .int .i64 i ∧ (rc,rv,rn) = gvAux (16 - i) i (vTo L i) (L.drop (5 * i)) ∧ wr = w) (fun c _ => 16 - (intOf c).toNat)
 case atStart => exact ⟨0,by decide,rfl,HR.out,rfl⟩
 case round =>
  obtain ⟨i,hi,rfl,hgv,hww⟩ := hrel
  have hww2 := hww.symm
  clear hww
  subst hww2
  rw [show 16 - i = (15 - i) + 1 from by omega,gvAux,List.length_drop] at hgv
  clear HR
  by_cases hsh : L.length < 5 * i + 5
  ·rw [if_pos (by omega)] at hgv
   simp only [Prod.mk.injEq] at hgv
   obtain ⟨rfl,rfl,rfl⟩ := hgv
   have hs : (L.length : Int) < 5 * (i : Int) + 5 := by omega
   go_wp2
   go_ret3
   exact ⟨_,rfl,H.out,Fr.refl _ _⟩
  ·rw [if_neg (by omega)] at hgv
   obtain ⟨b,hb⟩ : ∃ b,L[5 * i + 4]? = some b := ⟨_,List.getElem?_eq_getElem (by omega)⟩
   have htop := g5_top (L.drop (5 * i)) b (by rw [List.getElem?_drop]; exact hb)
   obtain ⟨g,o,hao,cx⟩ := H.out.cell hb
   subst hao
   obtain ⟨q,hq⟩ : ∃ q,q = 5 * i + 4 := ⟨_,rfl⟩
   rw [← hq] at cx
   have hqi : (5 : Int) * ((i : Int) + 1) - 1 = (q : Int) := by omega
   have hql : q < L.length := by omega
   have hs : ¬ (L.length : Int) < 5 * (i : Int) + 5 := by omega
   have HD : Hid ((L.drop (5 * i)).drop 5 = L.drop (5 * (i + 1))) := by show _ = _; rw [List.drop_drop]; congr 1
   have HG : Hid ((rc,rv,rn) = if 16 ≤ g5 (L.drop (5 * i)) then gvAux (15 - i) (i + 1) (vTo L (i + 1)) (L.drop (5 * (i + 1))) else if grp (vTo L (i + 1)) ≠ i + 1 then (4,0,0) else (0,vTo L (i + 1),5 * (i + 1))) := by
    show _ = _
    rw [← HD.out]
    exact hgv
   have HT : Hid (16 ≤ g5 (L.drop (5 * i)) ↔ b = true) := htop
   have HQ : Hid (q = 5 * i + 4) := hq
   clear hgv hb htop hq HD
   obtain ⟨b16,t16⟩ : ∃ c : Bool,(((i : Int) + 1) == 16) = c := ⟨_,rfl⟩
   have H16 : Hid (b16 = true ↔ i = 15) := by
    show _ ↔ _
    rw [← t16]; simp; omega
   cases b with
   | true =>
    cases b16 with
    | true =>
     have e15 : i = 15 := H16.out.1 rfl
     have hh := HG.out
     rw [if_pos (HT.out.2 rfl)] at hh
     subst e15
     rw [show 15 - 15 = 0 from rfl,gvAux] at hh
     simp only [Prod.mk.injEq] at hh
     obtain ⟨rfl,rfl,rfl⟩ := hh
     clear H16 HG HT
     have hq79 : q = 79 := by have := HQ.out; omega
     subst hq79
     go_wp2
     go_ret3
     exact ⟨_,rfl,H.out,Fr.refl _ _⟩
    | false =>
     have hlt : i < 15 := by
      rcases Nat.lt_or_ge i 15 with c | c
      ·exact c
      ·have := H16.out.2 (by omega); cases this
     have HS : Hid ((rc,rv,rn) = gvAux (16 - (i + 1)) (i + 1) (vTo L (i + 1)) (L.drop (5 * (i + 1)))) := by
      have hh := HG.out
      rw [if_pos (HT.out.2 rfl)] at hh
      show _ = _
      rw [hh,show 16 - (i + 1) = 15 - i from by omega]
     clear H16 HG HT
     go_wp2
     go_roundw
     case rel => exact ⟨i + 1,by omega,by go_num,HS.out,trivial⟩
     case measure => simp [intOf]; omega
   | false =>
    have HS : Hid ((rc,rv,rn) = if grp (vTo L (i + 1)) ≠ i + 1 then (4,0,0) else (0,vTo L (i + 1),5 * (i + 1))) := by
     have hh := HG.out
     rw [if_neg (fun c => by have := HT.out.1 c; cases this)] at hh
     exact hh
    have HX : Hid (vTo L (i + 1) < 18446744073709551616) := Nat.lt_of_lt_of_le (vTo_lt L (i + 1)) (Nat.pow_le_pow_right (n := 2) (i := 4 * (i + 1)) (j := 64) (by decide) (by omega))
    have HN : Hid (∀ j,j < i + 1 → vTo L (i + 1) / 2 ^ (4 * j) = 16 * (vTo L (i + 1) / 2 ^ (4 * (j + 1))) + num ((L.drop (5 * j)).take 4)) := fun j hj => by rw [vTo_step L (i + 1) j hj,g5_low]
    have H0 : Hid (vTo L (i + 1) / 2 ^ (4 * (i + 1)) = 0) := Nat.div_eq_of_lt (vTo_lt L (i + 1))
    clear H16 HG HT
    generalize vTo L (i + 1) = X at *
    cases b16
    all_goals
     go_wp2
     clear cx hqi hs t16
     go_loopw [6,7] (fun xv c wr => ∃ k : Nat,k ≤ i + 1 ∧ c = .int .i64 ((k : Int) - 1) ∧ xv = .int .u64 ((X / 2 ^ (4 * k) : Nat) : Int) ∧ Fr Nobody w wr) (fun _ c _ => (intOf c + 1).toNat)
     case atStart => exact ⟨i + 1,Nat.le_refl _,by go_num,by rw [H0.out]; rfl,Fr.refl _ _⟩
     case round =>
      obtain ⟨k,hk,rfl,rfl,hf⟩ := hrel
      have HF : Hid (Fr Nobody w wr) := hf
      clear hf
      by_cases hpos : 0 < k
      ·obtain ⟨j,rfl⟩ : ∃ j,k = j + 1 := ⟨k - 1,by omega⟩
       obtain ⟨p,hp⟩ : ∃ p,p = 5 * j := ⟨_,rfl⟩
       have hpi : (5 : Int) * (j : Int) = (p : Int) := by omega
       have hpl : p + 5 ≤ L.length := by have := HQ.out; omega
       have hpc : cap ≠ p := by omega
       have hge : (0 : Int) ≤ ((j + 1 : Nat) : Int) - 1 := by omega
       have hjj : (((j + 1 : Nat) : Int) - 1) = (j : Int) := by omega
       have HB : Hid (Bs wr (.slice (some ⟨g,o + p,none⟩) (L.length - p) (cap - p)) (L.drop p)) := by
        have h9 := (H.out.quiet HF.out).drop p (by omega)
        rw [if_neg hpc,Option.map_some,addr_add] at h9
        exact h9
       have HJ : Hid (X / 2 ^ (4 * j) = 16 * (X / 2 ^ (4 * (j + 1))) + num ((L.drop p).take 4)) := by have := HN.out j (by omega); rw [← hp] at this; exact this
       have hy : 16 * (X / 2 ^ (4 * (j + 1))) + num ((L.drop p).take 4) < 18446744073709551616 := by
        rw [← HJ.out]; exact Nat.lt_of_le_of_lt (Nat.div_le_self _ _) HX.out
       have G : Hid (True → _) := fun _ => rget_ok wr _ (L.drop p) 4 HB.out (by decide) (by rw [List.length_drop]; omega) (by rw [List.length_drop]; omega)
       clear hp
       generalize num ((L.drop p).take 4) = gg at *
       generalize X / 2 ^ (4 * (j + 1)) = y at *
       go_wp2_with fail
       refine (G.out trivial).mono ?_
       rintro e w2 ⟨v',rfl,hB',hf'⟩
       have H2 : Hid (Fr Nobody w w2) := HF.out.trans hf'
       clear hB' hf' HB G HF
       go_wp2
       go_roundw
       case rel => exact ⟨j,by omega,by go_num,by rw [HJ.out]; go_num,H2.out⟩
       case measure => simp [intOf]
      ·have hk0 : k = 0 := by omega
       subst hk0
       have e0 : X / 2 ^ (4 * 0) = X := by simp
       rw [e0]
       clear e0
       go_wp2_with fail
       refine (rvar_any wr X HX.out).mono ?_
       rintro e w2 ⟨u,rfl,hO,hf2⟩
       have H2 : Hid (Fr Nobody w w2) := HF.out.trans hf2
       obtain ⟨au,cu,hu⟩ := row_any hO
       subst hu
       have HLL : Hid ((var X).length = 5 * grp X) := length_var X
       clear hO hf2 HF
       generalize (var X).length = ll at *
       generalize grp X = G at *
       by_cases cg : G = i + 1
       ·subst cg
        have hh := HS.out
        rw [if_neg (by simp)] at hh
        simp only [Prod.mk.injEq] at hh
        obtain ⟨rfl,rfl,rfl⟩ := hh
        obtain ⟨p,hp⟩ : ∃ p,p = 5 * (i + 1) := ⟨_,rfl⟩
        have hpi : (5 : Int) * ((i : Int) + 1) = (p : Int) := by omega
        have hpl : p ≤ L.length := by have := HQ.out; omega
        have tg : ((ll : Int) != (p : Int)) = false := by have := HLL.out; simp; omega
        have HPE : Hid (p = 5 * (i + 1)) := hp
        have HD := (H.out.quiet H2.out).drop p hpl
        clear hp HLL HS HN H0
        by_cases e : cap = p
        ·have HD2 : Hid (Bs w2 (.slice (some ⟨g,o,none⟩) (L.length - p) (cap - p)) (L.drop p)) := by
          rw [if_pos e] at HD; exact HD
         clear HD
         subst e
         have el : L.length = cap := by omega
         have HD3 : Hid (Bs w2 (.slice (some ⟨g,o,none⟩) 0 0) (L.drop cap)) := by
          have h9 := HD2.out
          rw [Nat.sub_self,show L.length - cap = 0 from by omega] at h9; exact h9
         clear HD2 el
         go_wp2
         go_quiet (fail)
         go_wp2
         go_ret3
         exact ⟨_,rfl,by show Bs _ _ (L.drop (5 * (i + 1))); rw [← HPE.out]; exact HD3.out.quiet ((Fr.refl _ _).drewN _),H2.out.drewN _⟩
        ·have HD2 : Hid (Bs w2 (.slice (some ⟨g,o + p,none⟩) (L.length - p) (cap - p)) (L.drop p)) := by
          rw [if_neg e,Option.map_some,addr_add] at HD; exact HD
         clear HD
         go_wp2
         go_quiet (fail)
         go_wp2
         go_ret3
         exact ⟨_,rfl,by show Bs _ _ (L.drop (5 * (i + 1))); rw [← HPE.out]; exact HD2.out.quiet ((Fr.refl _ _).drewN _),H2.out.drewN _⟩
       ·have hh := HS.out
        rw [if_pos cg] at hh
        simp only [Prod.mk.injEq] at hh
        obtain ⟨rfl,rfl,rfl⟩ := hh
        have tg : ((ll : Int) != 5 * ((i : Int) + 1)) = true := by have := HLL.out; rw [bne_iff_ne]; omega
        clear HLL HS HN H0
        go_wp2
        go_ret3
        exact ⟨_,rfl,H.out.quiet H2.out,H2.out⟩
theorem IsRow.more {k : IntKind} {w : World} {a : Option Addr} {len cap : Nat} {zs : List Int} (h : IsRow k w a len cap zs) : len ≤ cap ∧ (a = none → cap = 0) := by
 rcases h with ⟨rfl,rfl,rfl,rfl⟩ | ⟨x,rfl,hl,_⟩
 ·exact ⟨Nat.le_refl _,fun _ => rfl⟩
 ·exact ⟨hl,fun h => by cases h⟩
def Duo (w0 w : World) (br : Nat) (P : List Nat) (t : Nat) (x : Value) (M : List Bool) : Prop := Or w0 w br P t ∧ Bs w x M
theorem Duo.quiet {w0 w w' : World} {br : Nat} {P : List Nat} {t : Nat} {x : Value} {M : List Bool} (h : Duo w0 w br P t x M) (hf : Fr Nobody w w') : Duo w0 w' br P t x M := ⟨h.1.quiet hf,h.2.quiet hf⟩
def gi (lo hi : Int) (L : List Bool) : Int × Int × Nat :=
 if hi < lo then (1,0,0)
 else if L.length < wid lo hi then (2,0,0)
 else if (hi - lo).toNat < num (L.take (wid lo hi)) then (5,0,0)
 else (0,lo + (num (L.take (wid lo hi)) : Nat),wid lo hi)
theorem numAt_take (P : List Nat) (t n : Nat) : numAt P t n = num (((bitsB P).drop t).take n) := rfl
theorem rgetIn_any (w : World) (v : Value) (L : List Bool) (lo hi : Int) (h : Bs w v L) (hL : L.length ≤ 100000) (h0 : -9223372036854775808 ≤ lo) (h1 : hi ≤ 9223372036854775807) (h2 : lo ≤ 9223372036854775807) (h3 : -9223372036854775808 ≤ hi) :
  Calls Tryz.prog 99 #[v,.int .i64 lo,.int .i64 hi] w fun e w' => ∃ u,e = .returned (.tuple #[.int .i64 (gi lo hi L).2.1,u,.int .i64 (gi lo hi L).1]) ∧ GvRest w w' u (L.drop (gi lo hi L).2.2) := by
 obtain ⟨ao,cap,rfl⟩ := h.shape
 have H : Hid (Bs w (.slice ao L.length cap) L) := h
 clear h
 unfold gi
 by_cases c1 : hi < lo
 ·rw [if_pos c1]
  clear h0 h1 h2 h3
  go_enter Tryz.func99,Tryz.ntmps99
  go_wp2
  go_ret3
  exact ⟨_,rfl,H.out,Fr.refl _ _⟩
 ·rw [if_neg c1]
  have G : Hid _ := fun w => rwidth_any lo hi w h0 h1 h2 h3
  have hn : wid lo hi ≤ 64 := wid_le lo hi h0 h1
  obtain ⟨d,hd⟩ : ∃ d : Nat,d = (hi - lo).toNat := ⟨_,rfl⟩
  have hq : IntKind.u64.wrap (IntKind.u64.wrap hi - IntKind.u64.wrap lo) = (d : Int) := by simp only [wrapU]; omega
  rw [← hd]
  generalize wid lo hi = n at *
  by_cases c2 : L.length < n
  ·rw [if_pos c2]
   have G2 : Hid (True → _) := fun _ => rget_short w _ L n H.out hn c2
   clear h0 h1 h2 h3 hq hd hn
   go_enter Tryz.func99,Tryz.ntmps99
   go_wp2_with fail
   refine (G.out w).mono ?_
   rintro e w1 ⟨rfl,hw⟩
   have hw2 := hw.symm
   clear hw
   subst hw2
   go_wp2_with fail
   refine (G2.out trivial).mono ?_
   rintro e w1 ⟨rfl,hw⟩
   have hw2 := hw.symm
   clear hw
   subst hw2
   go_wp2
   go_ret3
   exact ⟨_,rfl,H.out,Fr.refl _ _⟩
  ·rw [if_neg c2]
   have G2 : Hid (True → _) := fun _ => rget_ok w _ L n H.out hn (by omega) (by omega)
   generalize hx : num (L.take n) = x at *
   by_cases c3 : d < x
   ·rw [if_pos c3]
    have c3' : (d : Int) < (x : Int) := by omega
    clear h0 h1 h2 h3 hd hn hx
    go_enter Tryz.func99,Tryz.ntmps99
    go_wp2_with fail
    refine (G.out w).mono ?_
    rintro e w1 ⟨rfl,hw⟩
    have hw2 := hw.symm
    clear hw
    subst hw2
    go_wp2_with fail
    refine (G2.out trivial).mono ?_
    rintro e w2 ⟨v2,rfl,hB,hf⟩
    have H2 : Hid (Fr Nobody w w2) := hf
    clear hB hf
    go_wp2
    go_ret3
    exact ⟨_,rfl,H.out.quiet H2.out,H2.out⟩
   ·rw [if_neg c3]
    have c3' : ¬ (d : Int) < (x : Int) := by omega
    obtain ⟨y,hy⟩ : ∃ y : Int,y = lo + (x : Int) := ⟨_,rfl⟩
    rw [← hy]
    have hyq : IntKind.i64.wrap (IntKind.u64.wrap (IntKind.u64.wrap lo + (x : Int))) = y := by simp only [wrapU,IntKind.wrap_i64]; omega
    clear h0 h1 h2 h3 hd hn hx hy
    go_enter Tryz.func99,Tryz.ntmps99
    go_wp2_with fail
    refine (G.out w).mono ?_
    rintro e w1 ⟨rfl,hw⟩
    have hw2 := hw.symm
    clear hw
    subst hw2
    go_wp2_with fail
    refine (G2.out trivial).mono ?_
    rintro e w2 ⟨v2,rfl,hB,hf⟩
    have H2 : Hid (Fr Nobody w w2 ∧ Bs w2 v2 (L.drop n)) := ⟨hf,hB⟩
    clear hB hf
    go_wp2
    go_ret3
    exact ⟨_,rfl,H2.out.2,H2.out.1⟩
theorem bs_set {w0 w : World} {l : List Thing} {b : Nat} {cur : Array Value} {t : TypeId} {u : Value} {L : List Bool} (h : Own w0 w (Cells b cur t :: l)) (ht : t ≠ 4) (hb : Bs w u L) (i : Nat) (x : Value) : Bs (w.setCell ⟨b,i,none⟩ x) u L := by
 rcases hb with hb | ⟨g,o,cap,c2,hv,hc,hg,hj⟩
 ·exact .inl hb
 ·have hlt : g < w.heap.size := (Array.getElem?_eq_some_iff.1 hg).1
  have hne : g ≠ b := fun e => by
   subst e
   have := h.obj
   rw [hg] at this
   simp at this
   exact ht this.2.symm
  have hf : Fr (fun k => k = b) w (w.setCell ⟨b,i,none⟩ x) := (Fr.refl (fun k => k = b) w).setCell (p := ⟨b,i,none⟩) (.inl rfl) x
  exact .inr ⟨g,o,cap,c2,hv,hc,(hf.block g hlt hne).trans hg,hj⟩
def SrcO (w0 w : World) (b : Nat) (L : List Bool) (bad : Bool) (l : List Thing) : Prop := ∃ v,Own w0 w (Cells b #[v,.bool bad] 95 :: l) ∧ Bs w v L
theorem SrcO.perm {w0 w : World} {b : Nat} {L : List Bool} {bad : Bool} {l m : List Thing} (h : SrcO w0 w b L bad l) (hp : l.Perm m) : SrcO w0 w b L bad m := by
 obtain ⟨v,h1,h2⟩ := h
 exact ⟨v,h1.perm (hp.cons _),h2⟩
theorem SrcO.bad {w0 w : World} {b : Nat} {L : List Bool} {bad : Bool} {l : List Thing} (h : SrcO w0 w b L bad l) : w.cell? ⟨b,1,none⟩ = some (.bool bad) := by
 obtain ⟨v,h1,_⟩ := h
 have := h1.cell 1
 simpa using this
theorem SrcO.fz {w0 w : World} {b : Nat} {L : List Bool} {bad : Bool} {l : List Thing} (h : SrcO w0 w b L bad l) (i : Nat) : w.frozen? ⟨b,i,none⟩ = false := by
 obtain ⟨v,h1,_⟩ := h
 exact h1.froz i
theorem SrcO.setBad {w0 w : World} {b : Nat} {L : List Bool} {bad : Bool} {l : List Thing} (h : SrcO w0 w b L bad l) (bad' : Bool) : SrcO w0 (w.setCell ⟨b,1,none⟩ (.bool bad')) b L bad' l := by
 obtain ⟨v,h1,h2⟩ := h
 have h3 := h1.setC 1 (.bool bad')
 simp at h3
 exact ⟨v,h3,bs_set h1 (by decide) h2 1 _⟩
theorem SrcO.cellH {w0 w : World} {b bh : Nat} {cur : Array Value} {t : TypeId} {L : List Bool} {bad : Bool} {l : List Thing} (h : SrcO w0 w b L bad (Cells bh cur t :: l)) (i : Nat) : w.cell? ⟨bh,i,none⟩ = cur[i]? := by
 obtain ⟨v,h1,_⟩ := h
 exact h1.two.cell i
theorem SrcO.fzH {w0 w : World} {b bh : Nat} {cur : Array Value} {t : TypeId} {L : List Bool} {bad : Bool} {l : List Thing} (h : SrcO w0 w b L bad (Cells bh cur t :: l)) (i : Nat) : w.frozen? ⟨bh,i,none⟩ = false := by
 obtain ⟨v,h1,_⟩ := h
 exact h1.two.froz i
theorem SrcO.setH {w0 w : World} {b bh : Nat} {cur : Array Value} {t : TypeId} {L : List Bool} {bad : Bool} {l : List Thing} (h : SrcO w0 w b L bad (Cells bh cur t :: l)) (ht : t ≠ 4) (i : Nat) (x : Value) : SrcO w0 (w.setCell ⟨bh,i,none⟩ x) b L bad (Cells bh (cur.setIfInBounds i x) t :: l) := by
 obtain ⟨v,h1,h2⟩ := h
 exact ⟨v,(h1.two.setC i x).two,bs_set h1.two ht h2 i x⟩
theorem SrcO.quiet {w0 w w' : World} {b : Nat} {L : List Bool} {bad : Bool} {l : List Thing} (h : SrcO w0 w b L bad l) (hf : Fr Nobody w w') : SrcO w0 w' b L bad l := by
 obtain ⟨v,h1,h2⟩ := h
 exact ⟨v,h1.quiet hf,h2.quiet hf⟩
theorem SrcO.tail {w0 w : World} {b : Nat} {L : List Bool} {bad : Bool} {P : Thing} {l : List Thing} (h : SrcO w0 w b L bad (P :: l)) : SrcO w0 w b L bad l := by
 obtain ⟨v,h1,h2⟩ := h
 exact ⟨v,h1.two.tail,h2⟩
theorem SrcO.neH {w0 w : World} {b bh : Nat} {cur : Array Value} {t : TypeId} {L : List Bool} {bad : Bool} {l : List Thing} (h : SrcO w0 w b L bad (Cells bh cur t :: l)) (ht : t ≠ 95) : bh ≠ b ∧ b ≠ bh := by
 obtain ⟨v,h1,_⟩ := h
 have e : bh ≠ b := fun e => by
  subst e
  have h2 := h1.obj
  have h3 := h1.two.obj
  rw [h2] at h3
  simp at h3
  exact ht h3.2.symm
 exact ⟨e,fun x => e x.symm⟩
theorem results_cell1L {fn : Func} {p : Tmp} {ty : TypeId} (h : fn.results = #[.cell p ty]) (tmps : Array Value) (P : Program) (w : World) : (results fn tmps).run P w = ((asAddr (tmps.getD p undef)).run P w).andThen fun a w₁ => (loadVar ty a).run P w₁ := by
 simp only [results,h]
 simp [Sem.run_bind,Result.andThen]
theorem splain (w0 w : World) (l : List Thing) (b : Nat) (L : List Bool) (bad : Bool) (h : SrcO w0 w b L bad l) (n : Nat) (hn : n ≤ 64) (hs : n ≤ L.length) (hL : L.length ≤ 100000) :
  Calls Tryz.prog 50 #[.pointer (some ⟨b,0,none⟩),.int .i64 (n : Int)] w fun x w' => x = .returned (.int .u64 ((num (L.take n) : Nat) : Int)) ∧ SrcO w0 w' b (L.drop n) bad l := by
 obtain ⟨v,hO,hb⟩ := h
 have HG : Hid (Calls _ _ _ _ _) := rget_ok w v L n hb hn hs (by omega)
 have p0 := hO.cell 0
 simp at p0
 have HO : Hid (Own w0 w (Cells b #[v,.bool bad] 95 :: l)) := hO
 clear hO hb hn hs hL
 generalize num (L.take n) = r at *
 generalize L.drop n = R at *
 go_enter Tryz.func50,Tryz.ntmps50
 go_wp2_with fail
 refine HG.out.mono ?_
 rintro e w1 ⟨v1,rfl,hb1,hf⟩
 obtain ⟨a1,c1,rfl⟩ := hb1.shape
 have h1 := HO.out.quiet hf
 have q0 := h1.cell 0
 have q1 := h1.cell 1
 have z0 := h1.froz 0
 simp at q0 q1
 have h2 := h1.setC 0 (.slice a1 R.length c1)
 simp at h2
 have r1 := h2.cell 1
 have z1 := h2.froz 1
 simp at r1
 have h3 := h2.setC 1 (.bool bad)
 simp at h3
 have H3 : Hid (Own w0 _ _ ∧ Bs _ (.slice a1 R.length c1) R) := ⟨h3,bs_set h2 (by decide) (bs_set h1 (by decide) hb1 0 (.slice a1 R.length c1)) 1 (.bool bad)⟩
 clear h1 h2 h3 hb1 hf HO HG p0
 cases bad
 all_goals
  go_wp2
  go_ret
  exact ⟨rfl,_,H3.out.1,H3.out.2⟩
theorem scount (w0 w : World) (l : List Thing) (b : Nat) (L R : List Bool) (bad : Bool) (h : SrcO w0 w b L bad l) (n : Nat) (hn : n < 18446744073709551616) (hs : L = var n ++ R) (hL : L.length ≤ 100000) :
  Calls Tryz.prog 48 #[.pointer (some ⟨b,0,none⟩)] w fun x w' => x = .returned (.int .u64 (n : Int)) ∧ SrcO w0 w' b R bad l := by
 obtain ⟨v,hO,hb⟩ := h
 have hg := rgetVar_any w v L hb hL
 have e1 : gv L = (0,n,5 * grp n) := by rw [hs]; exact gv_var n hn R
 have e2 : L.drop (5 * grp n) = R := by rw [hs]; exact List.drop_left' (length_var n)
 rw [e1] at hg
 simp only [e2] at hg
 have HG : Hid (Calls _ _ _ _ _) := hg
 have p0 := hO.cell 0
 simp at p0
 have HO : Hid (Own w0 w (Cells b #[v,.bool bad] 95 :: l)) := hO
 clear hO hb hn hs hL hg e1 e2
 go_enter Tryz.func48,Tryz.ntmps48
 go_wp2_with fail
 refine HG.out.mono ?_
 rintro e w1 ⟨v1,rfl,hb1,hf⟩
 obtain ⟨a1,c1,rfl⟩ := hb1.shape
 have h1 := HO.out.quiet hf
 have q0 := h1.cell 0
 have q1 := h1.cell 1
 have z0 := h1.froz 0
 simp at q0 q1
 have h2 := h1.setC 0 (.slice a1 (R).length c1)
 simp at h2
 have r1 := h2.cell 1
 have z1 := h2.froz 1
 simp at r1
 have h3 := h2.setC 1 (.bool bad)
 simp at h3
 have H3 : Hid (Own w0 _ _ ∧ Bs _ (.slice a1 R.length c1) R) := ⟨h3,bs_set h2 (by decide) (bs_set h1 (by decide) hb1 0 (.slice a1 R.length c1)) 1 (.bool bad)⟩
 clear h1 h2 h3 hb1 hf HO HG p0
 cases bad
 all_goals
  go_wp2
  go_ret
  exact ⟨rfl,_,H3.out.1,H3.out.2⟩
theorem gi_backN (x y : Int) (d : Nat) (R : List Bool) (h0 : -9223372036854775808 ≤ x) (h1 : y ≤ 9223372036854775807) (hb : x + (d : Int) ≤ y) : gi x y (bitsN (wid x y) d ++ R) = (0,x + (d : Int),wid x y) := by
 have hlt := in_lt (x + (d : Int)) x y h0 h1 (by omega) hb
 have e : (x + (d : Int) - x).toNat = d := by omega
 rw [e] at hlt
 have htk : (bitsN (wid x y) d ++ R).take (wid x y) = bitsN (wid x y) d := List.take_left' (length_bitsN _ _)
 unfold gi
 rw [htk,num_bitsN,Nat.mod_eq_of_lt hlt,List.length_append,length_bitsN]
 rw [if_neg (by omega),if_neg (by omega),if_neg (by omega)]
theorem drop_next {L A B : List Bool} {t n : Nat} (h : L.drop t = A ++ B) (hn : A.length = n) : L.drop (t + n) = B := by
 rw [← List.drop_drop,h,← hn,List.drop_left]
theorem bfit2 {t s : Nat} (h : bfit 2 t s = true) : s < t := by unfold bfit at h; simpa using h
theorem headB_split {k c e tk s : Nat} {L R : List Bool} (h : L = headB k c e tk s ++ R) : L = bitsN (wid 1 5) (k - 1) ++ (bitsN (wid 0 15) c ++ (var e ++ ((if hasT k = true then bitsN 32 tk else []) ++ ((if k = 2 then var (tk - s - 1) else []) ++ R)))) := by
 rw [h]; unfold headB; simp only [List.append_assoc]
end Go.Proofs.YtgifeckbflkkpaaGreatDoor
