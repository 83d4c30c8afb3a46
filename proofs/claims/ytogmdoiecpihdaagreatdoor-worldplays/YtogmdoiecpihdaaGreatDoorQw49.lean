/- Orders that are pushed one by one; turns that come in; maps of places by IDs. -/
import Derived.Test.YtogmdoiecpihdaaGreatDoorQw37
import Derived.Test.YtogmdoiecpihdaaGreatDoorQw36
import Derived.Test.YtogmdoiecpihdaaGreatDoorQw35
import Derived.Test.YtogmdoiecpihdaaGreatDoorQw31
namespace Go.Proofs.YtogmdoiecpihdaaGreatDoor
open Go.ChangeShapes Go.WideShapes Go.ChangeAt Go.RowKit Go.Maps
set_option linter.unusedVariables false
set_option maxHeartbeats 2000000
set_option maxRecDepth 100000
def OrdE.bare (o : OrdE) : OrdE := { o with ao := none,cap := 0 }
theorem runs_bare (E : List OrdE) : ∀ s,runs stq s E = runs stq s (E.map OrdE.bare) := by
 induction E with
 | nil => intro s; rfl
 | cons o E ih =>
  intro s
  rw [List.map_cons,runs,runs,show stq s o.bare = stq s o from rfl,ih]
theorem runs_len2 (E : List OrdE) : ∀ s,(runs stq s E).1.length = E.length := by
 induction E with
 | nil => intro s; rfl
 | cons o E ih => intro s; rw [runs]; simp [ih]
def push1 (S : List OrdE) (o : OrdE) : List OrdE := if o.ck = 0 ∧ S.length < 256 then S ++ [o.bare] else S
theorem PushTo.bare {E E' : List OrdE} {o : OrdE} (h : PushTo E o E') : E'.map OrdE.bare = push1 (E.map OrdE.bare) o := by
 unfold PushTo at h
 unfold push1
 rw [List.length_map]
 by_cases c : o.ck = 0 ∧ E.length < 256
 ·rw [if_pos c] at h ⊢
  obtain ⟨a,cc,rfl⟩ := h
  rw [List.map_append]; rfl
 ·rw [if_neg c] at h ⊢
  rw [h]
theorem PushTo.more {E E' : List OrdE} {o : OrdE} (h : PushTo E o E') (hi : o.In) (hE : ∀ x ∈ E,x.In) : (∀ x ∈ E',x.In) ∧ E'.length ≤ E.length + 1 := by
 unfold PushTo at h
 by_cases c : o.ck = 0 ∧ E.length < 256
 ·rw [if_pos c] at h
  obtain ⟨a,cc,rfl⟩ := h
  refine ⟨fun x hx => ?_,by simp⟩
  rcases List.mem_append.1 hx with hx | hx
  ·exact hE x hx
  ·simp at hx; subst hx; exact ⟨hi.d,hi.id,hi.k,hi.C,hi.len⟩
 ·rw [if_neg c] at h
  rw [h]; exact ⟨hE,by omega⟩
theorem trn_at {W w : World} {ao : Option Addr} {Q : List TrnE} (h : RowsAt (TrnIs W) 2 w ao Q) (k : Nat) (hk : k < Q.length) : ∃ (g o : Nat) (q : TrnE),ao = some ⟨g,o,none⟩ ∧ IsOrds W q.ao q.len q.cap q.Q ∧ w.cell? ⟨g,o + k * 2,none⟩ = some (.slice q.ao q.len q.cap) ∧ w.cell? ⟨g,o + k * 2 + 1,none⟩ = some (.int .u32 (q.look : Int)) := by
 obtain ⟨q,hq⟩ : ∃ q,Q[k]? = some q := ⟨_,List.getElem?_eq_getElem hk⟩
 rcases h with h | ⟨g,o,ha,hc⟩
 ·subst h; simp at hq
 ·obtain ⟨cs,⟨rfl,h4,h5⟩,_,h3⟩ := hc k q hq
  exact ⟨g,o,q,ha,h5,h3 0 (by decide),h3 1 (by decide)⟩
theorem ord_cells {w0 w : World} {l : List Thing} {g n cap : Nat} {L : List OrdE} (h : Own w0 w (Row 41 4 (.slice (some ⟨g,0,none⟩) n cap) n (cat OrdE.cs L) :: l)) (hn : L.length = n) (j : Nat) (o : OrdE) (ho : L[j]? = some o) :
  w.cell? ⟨g,j * 4,none⟩ = some (.int .u8 (o.d : Int)) ∧ w.cell? ⟨g,j * 4 + 1,none⟩ = some (.int .u32 (o.id : Int)) ∧ w.cell? ⟨g,j * 4 + 2,none⟩ = some (.int .u8 (o.k : Int)) ∧ w.cell? ⟨g,j * 4 + 3,none⟩ = some (.slice o.ao o.C.length o.cap) := by
 subst hn
 have hj := (List.getElem?_eq_some_iff.1 ho).1
 have hl : ∀ x : OrdE,(OrdE.cs x).length = 4 := fun _ => rfl
 refine ⟨?_,?_,?_,?_⟩
 ·rw [h.row.cellAt _ (by omega)]; exact (cat_at OrdE.cs 4 hl L j 0 o ho (by decide)).trans rfl
 ·rw [h.row.cellAt _ (by omega)]; exact (cat_at OrdE.cs 4 hl L j 1 o ho (by decide)).trans rfl
 ·rw [h.row.cellAt _ (by omega)]; exact (cat_at OrdE.cs 4 hl L j 2 o ho (by decide)).trans rfl
 ·rw [h.row.cellAt _ (by omega)]; exact (cat_at OrdE.cs 4 hl L j 3 o ho (by decide)).trans rfl
theorem len_sub {A : List Nat} (hA : A.Nodup) : ∀ {B : List Nat},(∀ x ∈ A,x ∈ B) → A.length ≤ B.length := by
 induction A with
 | nil => intro B _; exact Nat.zero_le _
 | cons a A ih =>
  intro B h
  obtain ⟨h1,h2⟩ := List.nodup_cons.1 hA
  have ha := h a List.mem_cons_self
  have := ih h2 (B := B.erase a) (fun x hx => (List.mem_erase_of_ne (fun e => h1 (by rw [← e]; exact hx))).2 (h x (List.mem_cons_of_mem _ hx)))
  have h3 := List.length_erase_of_mem ha
  have h4 := List.length_pos_of_mem ha
  rw [List.length_cons]; omega
theorem KeyN.le {α : Type} {A : Nat → Option α} {sz : Nat} (h : KeyN A sz) {L : List Nat} (hn : L.Nodup) (hl : ∀ i ∈ L,i < 4294967296 ∧ (A i).isSome = true) : L.length ≤ sz := by
 obtain ⟨K,kn,kl,km,rfl⟩ := h
 exact len_sub hn (fun x hx => (km x (hl x hx).1).2 (hl x hx).2)
end Go.Proofs.YtogmdoiecpihdaaGreatDoor
namespace Go.Proofs.YtogmdoiecpihdaaGreatDoor
open Go.RowKit
set_option linter.unusedVariables false
set_option maxHeartbeats 2000000
set_option maxRecDepth 100000
def chB (S : Nat → Nat → Option SgE) (id : Nat) (tk : Int) (k : Nat) : Bool := match S id k with
 | some s => decide (tk < (s.t : Int))
 | none => false
def chS (S : Nat → Nat → Option SgE) (id : Nat) (tk : Int) : Bool := (List.range 6).any (chB S id tk)
theorem chgd_b (S : Nat → Nat → Option SgE) (id k : Nat) (tk : Int) : ∃ (t : Nat) (c : Int),chgd true (S id k) = .tuple #[.int .u32 (t : Int),.int .i64 c] ∧ chB S id tk k = (decide (c = 0) && decide (tk < (t : Int))) := by
 unfold chgd chB
 cases S id k with
 | none => exact ⟨0,10,rfl,by simp⟩
 | some s => exact ⟨s.t,0,rfl,by simp⟩
theorem chS_yes {S : Nat → Nat → Option SgE} {id : Nat} {tk : Int} {k : Nat} (hk : k < 6) (h : chB S id tk k = true) : chS S id tk = true := by
 unfold chS
 rw [List.any_eq_true]
 exact ⟨k,List.mem_range.2 hk,h⟩
theorem chB_no {S : Nat → Nat → Option SgE} {id : Nat} {tk : Int} {k : Nat} (h : (List.range k).any (chB S id tk) = false) (h2 : chB S id tk k = false) : (List.range (k + 1)).any (chB S id tk) = false := by
 rw [List.range_succ,List.any_append,h]
 simp [h2]
theorem wchangedS (w0 w : World) (l : List Thing) (b K n : Nat) (x : Wd) (hσ : x.σ.Ok) (id : Nat) (hid : id < 4294967296) (hlv : x.σ.S.isLive id = true) (tk : Int) (h : Own w0 w (WdT b x K n :: l)) :
  Calls Tryz.prog 68 #[.pointer (some ⟨b,0,none⟩),.int .u32 (id : Int),.int .u32 tk] w fun e w' => e = .returned (.bool (chS x.S id tk)) ∧ Own w0 w' (WdT b x K n :: l) := by
 have H : Hid (Own w0 w (WdT b x K n :: l)) := h
 have HC : Hid (∀ W k,k < 256 → Own w0 W (WdT b x K n :: l) → ∃ (t : Nat) (c : Int),chB x.S id tk k = (decide (c = 0) && decide (tk < (t : Int))) ∧ Calls Tryz.prog 38 #[.pointer (some ⟨b,0,none⟩),.int .u32 (id : Int),.int .u8 ((k : Nat) : Int)] W fun e w' => e = .returned (.tuple #[.int .u32 (t : Int),.int .i64 c]) ∧ Own w0 w' (WdT b x K n :: l)) := by
  intro W k hk hW
  obtain ⟨t,c,hc,hb⟩ := chgd_b x.S id k tk
  refine ⟨t,c,hb,?_⟩
  rw [← hlv] at hc
  rw [← hc]
  exact wchanged w0 W l b K n x hσ id hid k hk hW
 clear h hσ
 go_enter Tryz.func68,Tryz.ntmps68
 go_wp2
 refine wp_loop (fun a' wr => ∃ (k : Nat),a' = { tmps := #[.pointer (some ⟨b,0,none⟩),.int .u32 (id : Int),.int .u32 tk,gf a' 3,gf a' 4,gf a' 5,gf a' 6,gf a' 7,gf a' 8,gf a' 9,.int .u8 (k : Int),gf a' 11,gf a' 12,gf a' 13,gf a' 14,gf a' 15,gf a' 16,gf a' 17,gf a' 18,gf a' 19,gf a' 20,gf a' 21,gf a' 22,gf a' 23,gf a' 24,gf a' 25,gf a' 26,gf a' 27],defers := [] } ∧ k ≤ 6 ∧ (List.range k).any (chB x.S id tk) = false ∧ Own w0 wr (WdT b x K n :: l)) (fun a' _ => 6 - (intOf (a'.tmps.getD 10 undef)).toNat) ?_ ?_
 ·exact ⟨0,rfl,Nat.zero_le _,rfl,H.out⟩
 ·intro a' wr hI
  obtain ⟨k,hact,hk,hno,hO⟩ := hI
  have HNO : Hid ((List.range k).any (chB x.S id tk) = false) := hno
  clear hno
  obtain ⟨u,hu⟩ : ∃ u : Nat → Value,∀ k,gf a' k = u k := ⟨_,fun _ => rfl⟩
  simp only [hu] at hact
  clear hu
  subst hact
  clear H
  by_cases hlt : k < 6
  ·have hlt' : (k : Int) < 6 := by omega
   obtain ⟨t,c,hb,hc⟩ := HC.out wr k (by omega) hO
   have HB : Hid (chB x.S id tk k = (decide (c = 0) && decide (tk < (t : Int)))) := hb
   clear hb
   have HD : Hid (Calls _ _ _ _ _) := hc
   clear hc hO HC
   go_wp2_with fail
   refine HD.out.mono ?_
   rintro e w1 ⟨rfl,hO⟩
   have HO : Hid (Own w0 w1 _) := hO
   clear hO HD
   by_cases hc0 : c = 0
   ·have hc1 : (c == 0) = true := by simp [hc0]
    by_cases htk : tk < (t : Int)
    ·have HV : Hid (chS x.S id tk = true) := chS_yes (show k < 6 by omega) (by rw [HB.out]; simp [hc0,htk])
     clear hc0
     go_wp2
     go_ret
     exact ⟨by rw [HV.out]; try rfl,HO.out⟩
    ·have htk' : ¬ tk < (t : Int) := htk
     have HN2 : Hid ((List.range (k + 1)).any (chB x.S id tk) = false) := chB_no HNO.out (by rw [HB.out]; simp [htk])
     clear hc0
     go_wp2
     exact ⟨⟨k + 1,rfl,by omega,HN2.out,HO.out⟩,by simp [intOf]; omega⟩
   ·have hc1 : (c == 0) = false := by simp [hc0]
    have HN2 : Hid ((List.range (k + 1)).any (chB x.S id tk) = false) := chB_no HNO.out (by rw [HB.out]; simp [hc0])
    clear hc0
    go_wp2
    exact ⟨⟨k + 1,rfl,by omega,HN2.out,HO.out⟩,by simp [intOf]; omega⟩
  ·have hlt' : ¬ (k : Int) < 6 := by omega
   have hk6 : k = 6 := by omega
   have HV : Hid (chS x.S id tk = false) := by
    have := HNO.out
    rw [hk6] at this
    exact this
   have HO : Hid (Own w0 wr _) := hO
   clear hO hk6
   go_wp2
   go_ret
   exact ⟨by rw [HV.out]; try rfl,HO.out⟩
theorem wsinceS (w0 w : World) (l : List Thing) (b K n : Nat) (x : Wd) (hσ : x.σ.Ok) (tk : Int) (h : Own w0 w (WdT b x K n :: l)) :
  Calls Tryz.prog 20 #[.pointer (some ⟨b,0,none⟩),.int .u32 tk] w fun e w' => ∃ ao cap,e = .returned (.slice ao (x.σ.S.list.filter (fun id => chS x.S id tk)).length cap) ∧ Own w0 w' (Row 38 1 (.slice ao (x.σ.S.list.filter (fun id => chS x.S id tk)).length cap) (x.σ.S.list.filter (fun id => chS x.S id tk)).length (irow .u32 (x.σ.S.list.filter (fun id => chS x.S id tk))) :: WdT b x K n :: l) := by
 obtain ⟨i0,hi,hz0,hz1,hz2⟩ := info_parts Tryz.infoIDh
 have HL : Hid (∀ W l',Own w0 W (WdT b x K n :: l') → ∃ bs,(Calls Tryz.prog 66 #[.pointer (some ⟨b,0,none⟩)] W fun e w' => e = .returned (.pointer (some ⟨bs,0,none⟩)) ∧ w' = W) ∧ Calls Tryz.prog 67 #[.pointer (some ⟨bs,0,none⟩)] W fun e w' => ∃ ao cap,e = .returned (.slice ao x.σ.S.list.length cap) ∧ Own w0 w' (WdT b x K n :: Row 38 1 (.slice ao x.σ.S.list.length cap) x.σ.S.list.length (irow .u32 x.σ.S.list) :: l')) := by
  intro W l' hW
  obtain ⟨bs,bw,mp,pv,hW⟩ := hW.wdO
  refine ⟨bs,wstored w0 W _ b bs _ hW.two (by simp [wcs]),?_⟩
  refine (slist w0 W _ bs x.σ K hW hσ.s).mono ?_
  rintro e w' ⟨v,rfl,hO⟩
  obtain ⟨ao,cap,rfl⟩ := row_any hO.row
  refine ⟨ao,cap,rfl,?_⟩
  exact Own.wdS (hO.perm (List.perm_middle (l₁ := [_,_,_,_,_])).symm)
 have HID : Hid (∀ y ∈ x.σ.S.list,y < 4294967296 ∧ x.σ.S.isLive y = true) := fun y hy => ⟨(St.list_iv1 hσ.s hy).2,(St.list_iv1 hσ.s hy).1⟩
 have hlen : x.σ.S.list.length ≤ 1024 := list_len2 hσ.s
 have HCS : Hid (∀ W l' (y : Nat),y < 4294967296 ∧ x.σ.S.isLive y = true → Own w0 W (WdT b x K n :: l') → Calls Tryz.prog 68 #[.pointer (some ⟨b,0,none⟩),.int .u32 (y : Int),.int .u32 tk] W fun e w' => e = .returned (.bool (chS x.S y tk)) ∧ Own w0 w' (WdT b x K n :: l')) := fun W l' y hy hW => wchangedS w0 W l' b K n x hσ y hy.1 hy.2 tk hW
 obtain ⟨bs,hst,hls⟩ := HL.out w l h
 have HST : Hid (Calls _ _ _ _ _) := hst
 have HLS : Hid (Calls _ _ _ _ _) := hls
 clear h hst hls HL hσ
 obtain ⟨LL,hLL⟩ : ∃ LL,LL = x.σ.S.list := ⟨_,rfl⟩
 rw [← hLL] at HID hlen HLS
 rw [← hLL]
 obtain ⟨ln,hln⟩ : ∃ ln,ln = LL.length := ⟨_,rfl⟩
 have HLN : Hid (ln = LL.length) := hln
 rw [← hln] at hlen HLS
 clear hLL hln
 go_enter Tryz.func20,Tryz.ntmps20
 go_wp2_with fail
 refine HST.out.mono ?_
 rintro e w1 ⟨rfl,rfl⟩
 go_wp2_with fail
 refine HLS.out.mono ?_
 rintro e w2 ⟨la,lc,rfl,hO⟩
 have H2 : Hid (Own w0 w2 _) := hO
 clear hO HST HLS
 go_wp2
 refine wp_loop (fun a' wr => ∃ (k : Nat) (ra : Option Addr) (rl rc : Nat) (R : List Nat),a' = { tmps := #[.pointer (some ⟨b,0,none⟩),.int .u32 tk,gf a' 2,gf a' 3,gf a' 4,.slice ra rl rc,gf a' 6,gf a' 7,gf a' 8,gf a' 9,.slice la ln lc,.int .i64 (ln : Int),.int .i64 (k : Int),gf a' 13,gf a' 14,gf a' 15,gf a' 16,gf a' 17,gf a' 18,gf a' 19,gf a' 20,gf a' 21,gf a' 22,gf a' 23,gf a' 24,gf a' 25],defers := [] } ∧ k ≤ ln ∧ rl ≤ k ∧ R.length = rl ∧ R = (LL.take k).filter (fun id => chS x.S id tk) ∧ Own w0 wr (WdT b x K n :: Row 38 1 (.slice la ln lc) ln (irow .u32 LL) :: Row 38 1 (.slice ra rl rc) rl (irow .u32 R) :: l)) (fun a' _ => ln - (intOf (a'.tmps.getD 12 undef)).toNat) ?_ ?_
 ·exact ⟨0,none,0,0,[],rfl,Nat.zero_le _,Nat.le_refl _,rfl,rfl,(H2.out.nilRow _ _).back3⟩
 ·intro a' wr hI
  obtain ⟨k,ra,rl,rc,R,hact,hk,hrl,hR,hRf,hO⟩ := hI
  have HRF : Hid (R = (LL.take k).filter (fun id => chS x.S id tk)) := hRf
  clear hRf
  obtain ⟨u,hu⟩ : ∃ u : Nat → Value,∀ k,gf a' k = u k := ⟨_,fun _ => rfl⟩
  simp only [hu] at hact
  clear hu
  subst hact
  clear H2
  by_cases hlt : k < ln
  ·have hlt' : (k : Int) < (ln : Int) := by omega
   obtain ⟨y,hy⟩ : ∃ y,LL[k]? = some y := ⟨_,List.getElem?_eq_getElem (by rw [← HLN.out]; exact hlt)⟩
   have hyl := HID.out y (List.mem_of_getElem? hy)
   have HTK : Hid (LL.take (k + 1) = LL.take k ++ [y]) := by show _ = _; rw [List.take_add_one,hy]; rfl
   obtain ⟨g,c',hv,_⟩ := row_shape hO.two.row (by omega)
   obtain ⟨rfl,_,rfl⟩ := Value.slice.inj hv
   have c0 : wr.cell? ⟨g,k,none⟩ = some (.int .u32 (y : Int)) := by
    rw [hO.two.row.cellAt _ (by omega),getElem?_irow,hy]; rfl
   have HD : Hid (Calls _ _ _ _ _) := HCS.out wr _ y hyl hO
   clear hO hv hy
   go_wp2_with fail
   refine HD.out.mono ?_
   rintro e w4 ⟨rfl,hO⟩
   clear HD c0
   have HR : Hid (R.length = rl) := hR
   cases hr : chS x.S y tk with
   | false =>
    have HR2 : Hid (R = (LL.take (k + 1)).filter (fun id => chS x.S id tk)) := by show _ = _; rw [HTK.out,List.filter_append,← HRF.out]; simp [hr]
    clear hr
    have HO : Hid (Own w0 w4 _) := hO
    clear hO hR
    go_wp2
    exact ⟨⟨k + 1,ra,rl,rc,R,rfl,by omega,by omega,HR.out,HR2.out,HO.out⟩,by simp [intOf]; omega⟩
   | true =>
    have HR2 : Hid (R ++ [y] = (LL.take (k + 1)).filter (fun id => chS x.S id tk)) := by show _ = _; rw [HTK.out,List.filter_append,← HRF.out]; simp [hr]
    clear hr
    have HO : Hid (Own w0 w4 _) := hO.three
    clear hO hR
    go_wp2_with (at_builtin; refine append1_own rfl _ _ 55 rfl 38 i0 (.int .u32 0) 1 4 Tryz.underlying55 hi hz0 hz1 hz2 rfl (by decide) _ _ _ rfl HO.out _ #[.int .u32 (y : Int)] (by simp) rfl rfl (one_int _ _) (by unfold maxLen; omega) (by omega) ?_)
    intro g2 cap2 w5 hO2 hsz
    have H5 : Hid (Own w0 w5 (WdT b x K n :: Row 38 1 (.slice (some ⟨g,0,none⟩) ln lc) ln (irow .u32 LL) :: Row 38 1 (.slice (some ⟨g2,0,none⟩) (rl + 1) cap2) (rl + 1) (irow .u32 (R ++ [y])) :: l)) := by
     show Own _ _ _
     rw [irow_append]
     exact Own.back3 hO2
    clear hO2 HO
    go_wp2
    exact ⟨⟨k + 1,_,rl + 1,cap2,R ++ [y],rfl,by omega,by omega,by rw [List.length_append,HR.out]; rfl,HR2.out,H5.out⟩,by simp [intOf]; omega⟩
  ·have hlt' : ¬ (k : Int) < (ln : Int) := by omega
   have hRR : R = LL.filter (fun id => chS x.S id tk) := by
    have := HRF.out
    rw [List.take_of_length_le (by rw [← HLN.out]; omega)] at this
    exact this
   have HO : Hid (Own w0 wr _) := hO
   have HRR : Hid (R = LL.filter (fun id => chS x.S id tk) ∧ R.length = rl) := ⟨hRR,hR⟩
   clear hO hR hRR
   go_wp2
   go_ret
   rw [← HRR.out.1,HRR.out.2]
   exact ⟨_,_,rfl,HO.out.two.tail.two⟩
end Go.Proofs.YtogmdoiecpihdaaGreatDoor
