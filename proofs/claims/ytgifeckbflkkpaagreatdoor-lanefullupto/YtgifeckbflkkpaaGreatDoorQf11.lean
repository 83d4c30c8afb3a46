/- The document's side of layer 2: GetVar. -/
import Derived.Test.YtgifeckbflkkpaaGreatDoorQf10
import Derived.Deep.RegionWith
import Derived.Test.YtgifeckbflkkpaaGreatDoorQf09
import Derived.Laws.ResultCell
namespace Go.Proofs.YtgifeckbflkkpaaGreatDoor
open Go.RowKit
set_option linter.unusedVariables false
set_option maxHeartbeats 4000000
set_option maxRecDepth 100000
def GvRest (w w' : World) (u : Value) (M : List Bool) : Prop := Bs w' u M ∧ Fr Nobody w w'
theorem Bs.cell {w : World} {ao : Option Addr} {cap : Nat} {L : List Bool} (h : Bs w (.slice ao L.length cap) L) {i : Nat} {b : Bool} (hb : L[i]? = some b) : ∃ g o,ao = some ⟨g,o,none⟩ ∧ w.cell? ⟨g,o + i,none⟩ = some (.bool b) := by
 rcases h with ⟨_,h0⟩ | ⟨g,o,cap',cur,hv,_,hg,hc⟩
 ·subst h0; simp at hb
 ·simp only [Value.slice.injEq] at hv
  refine ⟨g,o,hv.1,?_⟩
  rw [cell_of_row w g _ cur 4 (0,0) hg]
  exact hc i (.bool b) (by simp [brow,hb])
theorem rgetVar_any (w : World) (v : Value) (L : List Bool) (h : Bs w v L) (hL : L.length ≤ 100000) :
  Calls Tryz.prog 104 #[v] w fun e w' => ∃ u,e = .returned (.tuple #[.int .u64 ((gv L).2.1 : Nat),u,.int .i64 (gv L).1]) ∧ GvRest w w' u (L.drop (gv L).2.2) := by
 obtain ⟨ao,cap,rfl⟩ := h.shape
 have H : Hid (Bs w (.slice ao L.length cap) L) := h
 have hcap : L.length ≤ cap := by
  rcases h with ⟨hv,h0⟩ | ⟨g,o,cap',cur,hv,hc,_⟩
  ·subst h0; exact Nat.zero_le _
  ·simp only [Value.slice.injEq] at hv; omega
 obtain ⟨r,hr⟩ : ∃ r,r = gv L := ⟨_,rfl⟩
 rw [← hr]
 have HR : Hid (r = gvAux 16 0 0 L) := hr
 clear h hr
 obtain ⟨rc,rv,rn⟩ := r
 go_enter Tryz.func104,Tryz.ntmps104
 go_wp2
 go_loopw [5] (fun c wr => ∃ i : Nat,i ≤ 15 ∧ c = .int .i64 i ∧ (rc,rv,rn) = gvAux (16 - i) i (vTo L i) (L.drop (5 * i)) ∧ wr = w) (fun c _ => 16 - (intOf c).toNat)
 case atStart => exact ⟨0,by decide,rfl,HR.out,rfl⟩
 case round =>
  obtain ⟨i,hi,rfl,hgv,hww⟩ := hrel
  have hww2 := hww.symm
  clear hww
  subst hww2
  rw [show 16 - i = (15 - i) + 1 from by omega,gvAux,List.length_drop] at hgv
  clear HR
  by_cases hsh : L.length < 5 * i + 5
  ·rw [if_pos (by omega)] at hgv
   simp only [Prod.mk.injEq] at hgv
   obtain ⟨rfl,rfl,rfl⟩ := hgv
   have hs : (L.length : Int) < 5 * (i : Int) + 5 := by omega
   go_wp2
   go_ret3
   exact ⟨_,rfl,H.out,Fr.refl _ _⟩
  ·rw [if_neg (by omega)] at hgv
   obtain ⟨b,hb⟩ : ∃ b,L[5 * i + 4]? = some b := ⟨_,List.getElem?_eq_getElem (by omega)⟩
   have htop := g5_top (L.drop (5 * i)) b (by rw [List.getElem?_drop]; exact hb)
   obtain ⟨g,o,hao,cx⟩ := H.out.cell hb
   subst hao
   obtain ⟨q,hq⟩ : ∃ q,q = 5 * i + 4 := ⟨_,rfl⟩
   rw [← hq] at cx
   have hqi : (5 : Int) * ((i : Int) + 1) - 1 = (q : Int) := by omega
   have hql : q < L.length := by omega
   have hs : ¬ (L.length : Int) < 5 * (i : Int) + 5 := by omega
   have HD : Hid ((L.drop (5 * i)).drop 5 = L.drop (5 * (i + 1))) := by show _ = _; rw [List.drop_drop]; congr 1
   have HG : Hid ((rc,rv,rn) = if 16 ≤ g5 (L.drop (5 * i)) then gvAux (15 - i) (i + 1) (vTo L (i + 1)) (L.drop (5 * (i + 1))) else if grp (vTo L (i + 1)) ≠ i + 1 then (4,0,0) else (0,vTo L (i + 1),5 * (i + 1))) := by
    show _ = _
    rw [← HD.out]
    exact hgv
   have HT : Hid (16 ≤ g5 (L.drop (5 * i)) ↔ b = true) := htop
   have HQ : Hid (q = 5 * i + 4) := hq
   clear hgv hb htop hq HD
   obtain ⟨b16,t16⟩ : ∃ c : Bool,(((i : Int) + 1) == 16) = c := ⟨_,rfl⟩
   have H16 : Hid (b16 = true ↔ i = 15) := by
    show _ ↔ _
    rw [← t16]; simp; omega
   cases b with
   | true =>
    cases b16 with
    | true =>
     have e15 : i = 15 := H16.out.1 rfl
     have hh := HG.out
     rw [if_pos (HT.out.2 rfl)] at hh
     subst e15
     rw [show 15 - 15 = 0 from rfl,gvAux] at hh
     simp only [Prod.mk.injEq] at hh
     obtain ⟨rfl,rfl,rfl⟩ := hh
     clear H16 HG HT
     have hq79 : q = 79 := by have := HQ.out; omega
     subst hq79
     go_wp2
     go_ret3
     exact ⟨_,rfl,H.out,Fr.refl _ _⟩
    | false =>
     have hlt : i < 15 := by
      rcases Nat.lt_or_ge i 15 with c | c
      ·exact c
      ·have := H16.out.2 (by omega); cases this
     have HS : Hid ((rc,rv,rn) = gvAux (16 - (i + 1)) (i + 1) (vTo L (i + 1)) (L.drop (5 * (i + 1)))) := by
      have hh := HG.out
      rw [if_pos (HT.out.2 rfl)] at hh
      show _ = _
      rw [hh,show 16 - (i + 1) = 15 - i from by omega]
     clear H16 HG HT
     go_wp2
     go_roundw
     case rel => exact ⟨i + 1,by omega,by go_num,HS.out,trivial⟩
     case measure => simp [intOf]; omega
   | false =>
    have HS : Hid ((rc,rv,rn) = if grp (vTo L (i + 1)) ≠ i + 1 then (4,0,0) else (0,vTo L (i + 1),5 * (i + 1))) := by
     have hh := HG.out
     rw [if_neg (fun c => by have := HT.out.1 c; cases this)] at hh
     exact hh
    have HX : Hid (vTo L (i + 1) < 18446744073709551616) := Nat.lt_of_lt_of_le (vTo_lt L (i + 1)) (Nat.pow_le_pow_right (n := 2) (i := 4 * (i + 1)) (j := 64) (by decide) (by omega))
    have HN : Hid (∀ j,j < i + 1 → vTo L (i + 1) / 2 ^ (4 * j) = 16 * (vTo L (i + 1) / 2 ^ (4 * (j + 1))) + num ((L.drop (5 * j)).take 4)) := fun j hj => by rw [vTo_step L (i + 1) j hj,g5_low]
    have H0 : Hid (vTo L (i + 1) / 2 ^ (4 * (i + 1)) = 0) := Nat.div_eq_of_lt (vTo_lt L (i + 1))
    clear H16 HG HT
    generalize vTo L (i + 1) = X at *
    cases b16
    all_goals
     go_wp2
     clear cx hqi hs t16
     go_loopw [6,7] (fun xv c wr => ∃ k : Nat,k ≤ i + 1 ∧ c = .int .i64 ((k : Int) - 1) ∧ xv = .int .u64 ((X / 2 ^ (4 * k) : Nat) : Int) ∧ Fr Nobody w wr) (fun _ c _ => (intOf c + 1).toNat)
     case atStart => exact ⟨i + 1,Nat.le_refl _,by go_num,by rw [H0.out]; rfl,Fr.refl _ _⟩
     case round =>
      obtain ⟨k,hk,rfl,rfl,hf⟩ := hrel
      have HF : Hid (Fr Nobody w wr) := hf
      clear hf
      by_cases hpos : 0 < k
      ·obtain ⟨j,rfl⟩ : ∃ j,k = j + 1 := ⟨k - 1,by omega⟩
       obtain ⟨p,hp⟩ : ∃ p,p = 5 * j := ⟨_,rfl⟩
       have hpi : (5 : Int) * (j : Int) = (p : Int) := by omega
       have hpl : p + 5 ≤ L.length := by have := HQ.out; omega
       have hpc : cap ≠ p := by omega
       have hge : (0 : Int) ≤ ((j + 1 : Nat) : Int) - 1 := by omega
       have hjj : (((j + 1 : Nat) : Int) - 1) = (j : Int) := by omega
       have HB : Hid (Bs wr (.slice (some ⟨g,o + p,none⟩) (L.length - p) (cap - p)) (L.drop p)) := by
        have h9 := (H.out.quiet HF.out).drop p (by omega)
        rw [if_neg hpc,Option.map_some,addr_add] at h9
        exact h9
       have HJ : Hid (X / 2 ^ (4 * j) = 16 * (X / 2 ^ (4 * (j + 1))) + num ((L.drop p).take 4)) := by have := HN.out j (by omega); rw [← hp] at this; exact this
       have hy : 16 * (X / 2 ^ (4 * (j + 1))) + num ((L.drop p).take 4) < 18446744073709551616 := by
        rw [← HJ.out]; exact Nat.lt_of_le_of_lt (Nat.div_le_self _ _) HX.out
       have G : Hid (True → _) := fun _ => rget_ok wr _ (L.drop p) 4 HB.out (by decide) (by rw [List.length_drop]; omega) (by rw [List.length_drop]; omega)
       clear hp
       generalize num ((L.drop p).take 4) = gg at *
       generalize X / 2 ^ (4 * (j + 1)) = y at *
       go_wp2_with fail
       refine (G.out trivial).mono ?_
       rintro e w2 ⟨v',rfl,hB',hf'⟩
       have H2 : Hid (Fr Nobody w w2) := HF.out.trans hf'
       clear hB' hf' HB G HF
       go_wp2
       go_roundw
       case rel => exact ⟨j,by omega,by go_num,by rw [HJ.out]; go_num,H2.out⟩
       case measure => simp [intOf]
      ·have hk0 : k = 0 := by omega
       subst hk0
       have e0 : X / 2 ^ (4 * 0) = X := by simp
       rw [e0]
       clear e0
       go_wp2_with fail
       refine (rvar_any wr X HX.out).mono ?_
       rintro e w2 ⟨u,rfl,hO,hf2⟩
       have H2 : Hid (Fr Nobody w w2) := HF.out.trans hf2
       obtain ⟨au,cu,hu⟩ := row_any hO
       subst hu
       have HLL : Hid ((var X).length = 5 * grp X) := length_var X
       clear hO hf2 HF
       generalize (var X).length = ll at *
       generalize grp X = G at *
       by_cases cg : G = i + 1
       ·subst cg
        have hh := HS.out
        rw [if_neg (by simp)] at hh
        simp only [Prod.mk.injEq] at hh
        obtain ⟨rfl,rfl,rfl⟩ := hh
        obtain ⟨p,hp⟩ : ∃ p,p = 5 * (i + 1) := ⟨_,rfl⟩
        have hpi : (5 : Int) * ((i : Int) + 1) = (p : Int) := by omega
        have hpl : p ≤ L.length := by have := HQ.out; omega
        have tg : ((ll : Int) != (p : Int)) = false := by have := HLL.out; simp; omega
        have HPE : Hid (p = 5 * (i + 1)) := hp
        have HD := (H.out.quiet H2.out).drop p hpl
        clear hp HLL HS HN H0
        by_cases e : cap = p
        ·have HD2 : Hid (Bs w2 (.slice (some ⟨g,o,none⟩) (L.length - p) (cap - p)) (L.drop p)) := by
          rw [if_pos e] at HD; exact HD
         clear HD
         subst e
         have el : L.length = cap := by omega
         have HD3 : Hid (Bs w2 (.slice (some ⟨g,o,none⟩) 0 0) (L.drop cap)) := by
          have h9 := HD2.out
          rw [Nat.sub_self,show L.length - cap = 0 from by omega] at h9; exact h9
         clear HD2 el
         go_wp2
         go_quiet (fail)
         go_wp2
         go_ret3
         exact ⟨_,rfl,by show Bs _ _ (L.drop (5 * (i + 1))); rw [← HPE.out]; exact HD3.out.quiet ((Fr.refl _ _).drewN _),H2.out.drewN _⟩
        ·have HD2 : Hid (Bs w2 (.slice (some ⟨g,o + p,none⟩) (L.length - p) (cap - p)) (L.drop p)) := by
          rw [if_neg e,Option.map_some,addr_add] at HD; exact HD
         clear HD
         go_wp2
         go_quiet (fail)
         go_wp2
         go_ret3
         exact ⟨_,rfl,by show Bs _ _ (L.drop (5 * (i + 1))); rw [← HPE.out]; exact HD2.out.quiet ((Fr.refl _ _).drewN _),H2.out.drewN _⟩
       ·have hh := HS.out
        rw [if_pos cg] at hh
        simp only [Prod.mk.injEq] at hh
        obtain ⟨rfl,rfl,rfl⟩ := hh
        have tg : ((ll : Int) != 5 * ((i : Int) + 1)) = true := by have := HLL.out; rw [bne_iff_ne]; omega
        clear HLL HS HN H0
        go_wp2
        go_ret3
        exact ⟨_,rfl,H.out.quiet H2.out,H2.out⟩
theorem IsRow.more {k : IntKind} {w : World} {a : Option Addr} {len cap : Nat} {zs : List Int} (h : IsRow k w a len cap zs) : len ≤ cap ∧ (a = none → cap = 0) := by
 rcases h with ⟨rfl,rfl,rfl,rfl⟩ | ⟨x,rfl,hl,_⟩
 ·exact ⟨Nat.le_refl _,fun _ => rfl⟩
 ·exact ⟨hl,fun h => by cases h⟩
def Duo (w0 w : World) (br : Nat) (P : List Nat) (t : Nat) (x : Value) (M : List Bool) : Prop := Or w0 w br P t ∧ Bs w x M
theorem Duo.quiet {w0 w w' : World} {br : Nat} {P : List Nat} {t : Nat} {x : Value} {M : List Bool} (h : Duo w0 w br P t x M) (hf : Fr Nobody w w') : Duo w0 w' br P t x M := ⟨h.1.quiet hf,h.2.quiet hf⟩
def gi (lo hi : Int) (L : List Bool) : Int × Int × Nat :=
 if hi < lo then (1,0,0)
 else if L.length < wid lo hi then (2,0,0)
 else if (hi - lo).toNat < num (L.take (wid lo hi)) then (5,0,0)
 else (0,lo + (num (L.take (wid lo hi)) : Nat),wid lo hi)
theorem rgetIn_any (w : World) (v : Value) (L : List Bool) (lo hi : Int) (h : Bs w v L) (hL : L.length ≤ 100000) (h0 : -9223372036854775808 ≤ lo) (h1 : hi ≤ 9223372036854775807) (h2 : lo ≤ 9223372036854775807) (h3 : -9223372036854775808 ≤ hi) :
  Calls Tryz.prog 99 #[v,.int .i64 lo,.int .i64 hi] w fun e w' => ∃ u,e = .returned (.tuple #[.int .i64 (gi lo hi L).2.1,u,.int .i64 (gi lo hi L).1]) ∧ GvRest w w' u (L.drop (gi lo hi L).2.2) := by
 obtain ⟨ao,cap,rfl⟩ := h.shape
 have H : Hid (Bs w (.slice ao L.length cap) L) := h
 clear h
 unfold gi
 by_cases c1 : hi < lo
 ·rw [if_pos c1]
  clear h0 h1 h2 h3
  go_enter Tryz.func99,Tryz.ntmps99
  go_wp2
  go_ret3
  exact ⟨_,rfl,H.out,Fr.refl _ _⟩
 ·rw [if_neg c1]
  have G : Hid _ := fun w => rwidth_any lo hi w h0 h1 h2 h3
  have hn : wid lo hi ≤ 64 := wid_le lo hi h0 h1
  obtain ⟨d,hd⟩ : ∃ d : Nat,d = (hi - lo).toNat := ⟨_,rfl⟩
  have hq : IntKind.u64.wrap (IntKind.u64.wrap hi - IntKind.u64.wrap lo) = (d : Int) := by simp only [wrapU]; omega
  rw [← hd]
  generalize wid lo hi = n at *
  by_cases c2 : L.length < n
  ·rw [if_pos c2]
   have G2 : Hid (True → _) := fun _ => rget_short w _ L n H.out hn c2
   clear h0 h1 h2 h3 hq hd hn
   go_enter Tryz.func99,Tryz.ntmps99
   go_wp2_with fail
   refine (G.out w).mono ?_
   rintro e w1 ⟨rfl,hw⟩
   have hw2 := hw.symm
   clear hw
   subst hw2
   go_wp2_with fail
   refine (G2.out trivial).mono ?_
   rintro e w1 ⟨rfl,hw⟩
   have hw2 := hw.symm
   clear hw
   subst hw2
   go_wp2
   go_ret3
   exact ⟨_,rfl,H.out,Fr.refl _ _⟩
  ·rw [if_neg c2]
   have G2 : Hid (True → _) := fun _ => rget_ok w _ L n H.out hn (by omega) (by omega)
   generalize hx : num (L.take n) = x at *
   by_cases c3 : d < x
   ·rw [if_pos c3]
    have c3' : (d : Int) < (x : Int) := by omega
    clear h0 h1 h2 h3 hd hn hx
    go_enter Tryz.func99,Tryz.ntmps99
    go_wp2_with fail
    refine (G.out w).mono ?_
    rintro e w1 ⟨rfl,hw⟩
    have hw2 := hw.symm
    clear hw
    subst hw2
    go_wp2_with fail
    refine (G2.out trivial).mono ?_
    rintro e w2 ⟨v2,rfl,hB,hf⟩
    have H2 : Hid (Fr Nobody w w2) := hf
    clear hB hf
    go_wp2
    go_ret3
    exact ⟨_,rfl,H.out.quiet H2.out,H2.out⟩
   ·rw [if_neg c3]
    have c3' : ¬ (d : Int) < (x : Int) := by omega
    obtain ⟨y,hy⟩ : ∃ y : Int,y = lo + (x : Int) := ⟨_,rfl⟩
    rw [← hy]
    have hyq : IntKind.i64.wrap (IntKind.u64.wrap (IntKind.u64.wrap lo + (x : Int))) = y := by simp only [wrapU,IntKind.wrap_i64]; omega
    clear h0 h1 h2 h3 hd hn hx hy
    go_enter Tryz.func99,Tryz.ntmps99
    go_wp2_with fail
    refine (G.out w).mono ?_
    rintro e w1 ⟨rfl,hw⟩
    have hw2 := hw.symm
    clear hw
    subst hw2
    go_wp2_with fail
    refine (G2.out trivial).mono ?_
    rintro e w2 ⟨v2,rfl,hB,hf⟩
    have H2 : Hid (Fr Nobody w w2 ∧ Bs w2 v2 (L.drop n)) := ⟨hf,hB⟩
    clear hB hf
    go_wp2
    go_ret3
    exact ⟨_,rfl,H2.out.2,H2.out.1⟩
def I32 (F : Nat → Int) : Prop := ∀ j,j < 3 → -2147483648 ≤ F j ∧ F j ≤ 2147483647
theorem boxes (w : World) (k k' : Nat) (F G : Nat → Int) :
  Box ((w.alloc (.cells (cmp k F) 63)).alloc (.cells (cmp k' G) 63)) w.heap.size k F ∧ Box ((w.alloc (.cells (cmp k F) 63)).alloc (.cells (cmp k' G) 63)) (w.heap.size + 1) k' G ∧ Fr Nobody w ((w.alloc (.cells (cmp k F) 63)).alloc (.cells (cmp k' G) 63)) := by
 refine ⟨(Box.new w k F).quiet ((Fr.refl _ _).alloc _),?_,((Fr.refl _ _).alloc _).alloc _⟩
 have := Box.new (w.alloc (.cells (cmp k F) 63)) k' G
 simpa using this
theorem more_any (w : World) (x y : Int) (hx : -2147483648 ≤ x ∧ x ≤ 2147483647) (hy : -2147483648 ≤ y ∧ y ≤ 2147483647) :
  Calls Tryz.prog 247 #[.int .i32 x,.int .i32 y] w fun e w' => e = .returned (.int .u64 ((zig (y - x) : Nat) : Int)) ∧ w' = w := by
 have HZ : Hid (∀ w,_) := fun w => zig_any (y - x) w (by omega) (by omega)
 generalize zig (y - x) = z at *
 go_enter Tryz.func247,Tryz.ntmps247
 go_wp2_with fail
 refine (HZ.out _).mono ?_
 rintro e w1 ⟨rfl,rfl⟩
 go_wp2
 go_ret
 exact ⟨rfl,rfl⟩
def ckS (k k' : Nat) (F G : Nat → Int) : Nat := if chk k F = 0 then (if chk k' G = 0 then (if k = k' then 0 else 4) else chk k' G) else chk k F
theorem checkStep_any (w : World) (ht : Tab w) (k k' : Nat) (hk : k < 256) (hk' : k' < 256) (F G : Nat → Int) :
  Calls Tryz.prog 229 #[.agg (cmp k F),.agg (cmp k' G)] w fun e w' => e = .returned (.int .i64 ((ckS k k' F G : Nat) : Int)) ∧ Fr Nobody w w' := by
 obtain ⟨b1,b2,hf⟩ := boxes w k k' F G
 have H : Hid (Tab w) := ht
 have HB1 : Hid _ := b1
 have HB2 : Hid _ := b2
 have HF : Hid _ := hf
 have C1 : Hid (∀ w,Tab w → Calls Tryz.prog 147 #[.agg (cmp k F)] w fun e w' => e = .returned (.int .i64 ((chk k F : Nat) : Int)) ∧ Fr Nobody w w') := fun w h => check_any w h k hk F
 have C2 : Hid (∀ w,Tab w → Calls Tryz.prog 147 #[.agg (cmp k' G)] w fun e w' => e = .returned (.int .i64 ((chk k' G : Nat) : Int)) ∧ Fr Nobody w w') := fun w h => check_any w h k' hk' G
 clear b1 b2 hf ht
 unfold ckS
 generalize chk k F = x at *
 generalize chk k' G = y at *
 by_cases hx : x = 0
 ·rw [if_pos hx]
  subst hx
  by_cases hy : y = 0
  ·rw [if_pos hy]
   subst hy
   by_cases e : k = k'
   ·rw [if_pos e]
    subst e
    unfold cmp at *
    go_enter Tryz.func229,Tryz.ntmps229
    go_wp2_with fail
    refine (C1.out _ (H.out.quiet HF.out)).mono ?_
    rintro e w1 ⟨rfl,hf1⟩
    have HF1 : Hid (Fr Nobody w w1) := HF.out.trans hf1
    have B2 : Hid (Box w1 (w.heap.size + 1) k G) := Box.quiet HB2.out hf1
    have B1 : Hid (Box w1 w.heap.size k F) := Box.quiet HB1.out hf1
    obtain ⟨c0,c1,c2,c3⟩ := B2.out.cells
    clear hf1
    go_wp2_with fail
    refine (C2.out _ (H.out.quiet HF1.out)).mono ?_
    rintro e w2 ⟨rfl,hf2⟩
    have HF2 : Hid (Fr Nobody w w2) := HF1.out.trans hf2
    have d0 := (B2.out.quiet hf2).kind
    have e0 := (B1.out.quiet hf2).kind
    clear hf2 c0 c1 c2 c3
    go_wp2
    go_ret
    exact ⟨rfl,HF2.out⟩
   ·rw [if_neg e]
    have hne : ((k : Int) != (k' : Int)) = true := by rw [bne_iff_ne]; omega
    unfold cmp at *
    go_enter Tryz.func229,Tryz.ntmps229
    go_wp2_with fail
    refine (C1.out _ (H.out.quiet HF.out)).mono ?_
    rintro e w1 ⟨rfl,hf1⟩
    have HF1 : Hid (Fr Nobody w w1) := HF.out.trans hf1
    have B2 : Hid (Box w1 (w.heap.size + 1) k' G) := Box.quiet HB2.out hf1
    have B1 : Hid (Box w1 w.heap.size k F) := Box.quiet HB1.out hf1
    obtain ⟨c0,c1,c2,c3⟩ := B2.out.cells
    clear hf1
    go_wp2_with fail
    refine (C2.out _ (H.out.quiet HF1.out)).mono ?_
    rintro e w2 ⟨rfl,hf2⟩
    have HF2 : Hid (Fr Nobody w w2) := HF1.out.trans hf2
    have d0 := (B2.out.quiet hf2).kind
    have e0 := (B1.out.quiet hf2).kind
    clear hf2 c0 c1 c2 c3
    go_wp2
    go_ret
    exact ⟨rfl,HF2.out⟩
  ·rw [if_neg hy]
   have hne : ((y : Int) != 0) = true := by rw [bne_iff_ne]; omega
   unfold cmp at *
   go_enter Tryz.func229,Tryz.ntmps229
   go_wp2_with fail
   refine (C1.out _ (H.out.quiet HF.out)).mono ?_
   rintro e w1 ⟨rfl,hf1⟩
   have HF1 : Hid (Fr Nobody w w1) := HF.out.trans hf1
   have B2 : Hid (Box w1 (w.heap.size + 1) k' G) := Box.quiet HB2.out hf1
   obtain ⟨c0,c1,c2,c3⟩ := B2.out.cells
   clear hf1
   go_wp2_with fail
   refine (C2.out _ (H.out.quiet HF1.out)).mono ?_
   rintro e w2 ⟨rfl,hf2⟩
   have HF2 : Hid (Fr Nobody w w2) := HF1.out.trans hf2
   clear hf2
   go_wp2
   go_ret
   exact ⟨rfl,HF2.out⟩
 ·rw [if_neg hx]
  have hne : ((x : Int) != 0) = true := by rw [bne_iff_ne]; omega
  unfold cmp at *
  go_enter Tryz.func229,Tryz.ntmps229
  go_wp2_with fail
  refine (C1.out _ (H.out.quiet HF.out)).mono ?_
  rintro e w1 ⟨rfl,hf1⟩
  have HF1 : Hid (Fr Nobody w w1) := HF.out.trans hf1
  clear hf1
  go_wp2
  go_ret
  exact ⟨rfl,HF1.out⟩
end Go.Proofs.YtgifeckbflkkpaaGreatDoor
