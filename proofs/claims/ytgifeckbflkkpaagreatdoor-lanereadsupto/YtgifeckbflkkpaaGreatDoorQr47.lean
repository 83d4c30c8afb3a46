/- Lanes: the frame of a snapshot, behind a base or none. -/
import Derived.Test.YtgifeckbflkkpaaGreatDoorQr46
import Derived.Deep.CutBlock
import Derived.Deep.RegionLaw
namespace Go.Proofs.YtgifeckbflkkpaaGreatDoor
open Go.RowKit
set_option linter.unusedVariables false
set_option maxHeartbeats 4000000
set_option maxRecDepth 100000
def lfit (c e bud t : Nat) (bo : Option (Nat × List En)) (N : List En) : Bool := (match bo with | some x => wfit 2 c e t x.1 x.2 N bud | none => false) || wfit 1 c e t 0 [] N bud
def lfrm (c e bud t : Nat) (bo : Option (Nat × List En)) (N : List En) : List Nat := match bo with
 | some x => if wfit 2 c e t x.1 x.2 N bud = true then sfr 2 c e t x.1 x.2 N else wfr 1 c e t 0 [] N bud
 | none => wfr 1 c e t 0 [] N bud
theorem entsAt_nil (w : World) : EntsAt w none [] := ⟨.inl rfl,fun x hx => by cases hx⟩
structure HeE where
 t : Nat
 ao : Option Addr
 cap : Nat
 L : List EnE
def HeE.r (x : HeE) : Nat × (Option Addr × Nat × Nat) := (x.t,(x.ao,x.L.length,x.cap))
def hget (H : List HeE) (t : Nat) : Option HeE := match H[below t (H.map HeE.r)]? with
 | some x => if x.t = t then some x else none
 | none => none
theorem rget_hget (H : List HeE) (t : Nat) : rget (H.map HeE.r) t = (hget H t).map (fun x => (x.ao,x.L.length,x.cap)) := by
 unfold rget hget
 rw [List.getElem?_map]
 cases H[below t (H.map HeE.r)]? with
 | none => rfl
 | some x =>
  simp only [Option.map_some]
  show (if x.t = t then some (HeE.r x).2 else none) = _
  split <;> rfl
theorem hget_mem {H : List HeE} {t : Nat} {x : HeE} (h : hget H t = some x) : x ∈ H ∧ x.t = t := by
 unfold hget at h
 cases hx : H[below t (H.map HeE.r)]? with
 | none => rw [hx] at h; cases h
 | some y =>
  rw [hx] at h
  simp only at h
  split at h
  ·rename_i he
   simp only [Option.some.injEq] at h
   subst h
   exact ⟨List.mem_of_getElem? hx,he⟩
  ·cases h
def HOk (H : List HeE) : Prop := ∀ x ∈ H,x.L.length ≤ x.cap ∧ x.cap ≤ 9223372036854775807 ∧ EIn x.L ∧ esz x.L ≤ 400
def lbo (H : List HeE) (as_ : Bool) (at_ : Nat) : Option (Nat × List En) := if as_ = true then (hget H at_).map (fun x => (at_,evs x.L)) else none
theorem perm_lc (P Q R : Thing) (m : List Thing) : (P :: Q :: R :: m).Perm (Q :: R :: P :: m) := (List.Perm.swap Q P (R :: m)).trans ((List.Perm.swap R P m).cons Q)
theorem lframe (w0 w : World) (htb : Tab w0) (htf : Tabf w0) (l : List Thing) (b c e bud rb k st at_ : Nat) (ss as_ : Bool) (H : List HeE) (hR : ROk k (H.map HeE.r)) (hH : HOk H) (hbud : bud ≤ 4100) (hc : c < 256) (he : e < 4294967296) (ha : at_ < 4294967296) (h : Own w0 w (Cells b (lc c e bud rb ss st as_ at_) 128 :: Ringe rb k (H.map HeE.r) :: l)) (t : Nat) (ht : t < 4294967296) (an : Option Addr) (nn cn : Nat) (N : List EnE) (hQ : ∀ w',Own w0 w' l → EntsAt w' an N ∧ ∀ x ∈ H,EntsAt w' x.ao x.L) (hN : N.length = nn) (hcn : nn ≤ cn) (hmn : cn ≤ 9223372036854775807) (hIN : EIn N) (hzN : esz N ≤ 400) :
  Calls Tryz.prog 61 #[.pointer (some ⟨b,0,none⟩),.int .u32 (t : Int),.slice an nn cn] w fun x w' => ∃ v,x = .returned (.tuple #[v,.bool (lfit c e bud t (lbo H as_ at_) (evs N))]) ∧ Own w0 w' (Row 5 1 v (lfrm c e bud t (lbo H as_ at_) (evs N)).length (vrow (lfrm c e bud t (lbo H as_ at_) (evs N))) :: Cells b (lc c e bud rb ss st as_ at_) 128 :: Ringe rb k (H.map HeE.r) :: l) := by
 obtain ⟨LC,hLC⟩ : ∃ LC,LC = lc c e bud rb ss st as_ at_ := ⟨_,rfl⟩
 have HB : Hid (∀ W l',Own w0 W (Cells b LC 128 :: Ringe rb k (H.map HeE.r) :: l') → Calls Tryz.prog 67 #[.pointer (some ⟨b,0,none⟩)] W fun x w' => x = .returned (gve (if as_ = true then rget (H.map HeE.r) at_ else none)) ∧ Own w0 w' (Cells b LC 128 :: Ringe rb k (H.map HeE.r) :: l')) := fun W l' hW => by
  rw [hLC] at hW ⊢
  exact lbase w0 W l' b c e bud rb k st at_ ss as_ _ hW hR
 have HWI : Hid (∀ W m,Own w0 W (Cells b LC 128 :: (m ++ (Ringe rb k (H.map HeE.r) :: l))) → Calls Tryz.prog 120 #[.pointer (some ⟨b,0,none⟩),.agg #[.int .u8 1,.int .u8 (c : Int),.int .u32 (e : Int),.int .u32 (t : Int),.int .u32 0],.slice none 0 0,.slice an nn cn] W fun x w' => ∃ v,x = .returned (.tuple #[v,.bool (wfit 1 c e t 0 [] (evs N) bud)]) ∧ Own w0 w' (Row 5 1 v (wfr 1 c e t 0 [] (evs N) bud).length (vrow (wfr 1 c e t 0 [] (evs N) bud)) :: Cells b LC 128 :: (m ++ (Ringe rb k (H.map HeE.r) :: l)))) := fun W m hW => by
  rw [hLC] at hW ⊢
  exact lwithin w0 W htb htf _ b c e bud rb st at_ ss as_ hbud hW 1 c e t 0 ⟨by omega,hc,he,ht,by omega⟩ none an 0 nn 0 cn [] N (fun w' hw => ⟨entsAt_nil w',(hQ w' hw.dropA.tail).1⟩) rfl hN (by omega) hcn (by omega) hmn (fun x hx => by cases hx) hIN (by unfold esz; simp [csz]) hzN
 have HWS : Hid (∀ W m,∀ x ∈ H,Own w0 W (Cells b LC 128 :: (m ++ (Ringe rb k (H.map HeE.r) :: l))) → Calls Tryz.prog 120 #[.pointer (some ⟨b,0,none⟩),.agg #[.int .u8 2,.int .u8 (c : Int),.int .u32 (e : Int),.int .u32 (t : Int),.int .u32 (at_ : Int)],.slice x.ao x.L.length x.cap,.slice an nn cn] W fun y w' => ∃ v,y = .returned (.tuple #[v,.bool (wfit 2 c e t at_ (evs x.L) (evs N) bud)]) ∧ Own w0 w' (Row 5 1 v (wfr 2 c e t at_ (evs x.L) (evs N) bud).length (vrow (wfr 2 c e t at_ (evs x.L) (evs N) bud)) :: Cells b LC 128 :: (m ++ (Ringe rb k (H.map HeE.r) :: l)))) := fun W m x hx hW => by
  rw [hLC] at hW ⊢
  exact lwithin w0 W htb htf _ b c e bud rb st at_ ss as_ hbud hW 2 c e t at_ ⟨by omega,hc,he,ht,ha⟩ x.ao an x.L.length nn x.cap cn x.L N (fun w' hw => ⟨(hQ w' hw.dropA.tail).2 x hx,(hQ w' hw.dropA.tail).1⟩) rfl hN (hH x hx).1 hcn (hH x hx).2.1 hmn (hH x hx).2.2.1 hIN (hH x hx).2.2.2 hzN
 have p0 := h.cell 0
 have p1 := h.cell 1
 have hz := h.allocC #[.int .u8 0,.int .u8 0,.int .u32 0,.int .u32 0,.int .u32 0] 29
 have q0 := hz.two.cell 0
 have q1 := hz.two.cell 1
 simp [lc] at p0 p1 q0 q1
 have HZ : Hid (Own w0 _ _) := hz
 have HO : Hid (Own w0 w _) := h
 have P7 : Hid (∀ W l',Own w0 W (Cells b LC 128 :: l') → W.cell? ⟨b,7,none⟩ = some (.int .u32 (at_ : Int))) := fun W l' hW => by
  have := hW.cell 7
  rw [hLC] at this
  simpa [lc] using this
 rw [← hLC] at HO HZ ⊢
 obtain ⟨ob,hob⟩ : ∃ ob,ob = if as_ = true then hget H at_ else none := ⟨_,rfl⟩
 have hrg : (if as_ = true then rget (H.map HeE.r) at_ else none) = ob.map (fun x => (x.ao,x.L.length,x.cap)) := by rw [hob,rget_hget]; split <;> rfl
 have HLB : Hid (lbo H as_ at_ = ob.map (fun x => (at_,evs x.L))) := by show _ = _; unfold lbo; rw [hob]; split <;> rfl
 have HMM : Hid (∀ x,ob = some x → x ∈ H) := fun x hx => by
  rw [hob] at hx
  split at hx
  ·exact (hget_mem hx).1
  ·cases hx
 rw [hrg] at HB
 rw [HLB.out]
 clear h hz hQ hN hcn hmn hIN hzN htb htf hR hH hbud hLC hob hrg HLB
 go_enter Tryz.func61,Tryz.ntmps61
 go_wp2
 go_cut [8] from 14 (fun v8 wc => ∃ bh : Nat,v8 = .pointer (some ⟨bh,0,none⟩) ∧ Own w0 wc (Cells bh #[.int .u8 1,.int .u8 (c : Int),.int .u32 (e : Int),.int .u32 (t : Int),.int .u32 0] 29 :: Cells b LC 128 :: Ringe rb k (H.map HeE.r) :: l))
 case first =>
  go_region_law (fail)
  all_goals
   go_wp2
   go_meet
   case rel =>
    first
     | exact ⟨_,rfl,(HO.out.allocC #[.int .u8 1,.int .u8 (c : Int),.int .u32 (e : Int),.int .u32 (t : Int),.int .u32 0] 29).drew⟩
     | exact ⟨_,rfl,HO.out.drew.allocC #[.int .u8 1,.int .u8 (c : Int),.int .u32 (e : Int),.int .u32 (t : Int),.int .u32 0] 29⟩
     | trace_state
 case rest =>
  obtain ⟨bh,rfl,hO⟩ := hcut
  have hbc := HB.out wc _ (hO.perm (perm_lc _ _ _ _))
  clear hO HZ HO p0 p1 q0 q1 HB
  rcases ob with _ | x
  ·have HBC : Hid (Calls _ _ _ _ _) := hbc
   clear hbc HMM HWS P7
   go_wp2_with fail
   refine HBC.out.mono ?_
   rintro y w3 ⟨rfl,h3⟩
   have c0 := h3.three.cell 0
   have c1 := h3.three.cell 1
   have c2 := h3.three.cell 2
   have c3 := h3.three.cell 3
   have c4 := h3.three.cell 4
   simp at c0 c1 c2 c3 c4
   have HW2 : Hid (Calls _ _ _ _ _) := HWI.out w3 [_] h3.in23
   clear h3 HBC HWI
   simp only [gve,Option.map_none]
   go_wp2_with fail
   refine HW2.out.mono ?_
   rintro y w4 ⟨v,rfl,h4⟩
   have H4 : Hid (Own w0 _ _) := h4.three.tail
   clear h4 HW2 c0 c1 c2 c3 c4
   go_wp2
   go_ret2
   exact ⟨v,by unfold lfit; simp,H4.out⟩
  ·have HBC : Hid (Calls _ _ _ _ _) := hbc
   have HMX : Hid (x ∈ H) := HMM.out x rfl
   clear hbc HMM
   obtain ⟨xt,xa,xc,xL⟩ := x
   obtain ⟨xl,hxl⟩ : ∃ xl,xl = xL.length := ⟨_,rfl⟩
   have HXL : Hid (xL.length = xl) := hxl.symm
   go_wp2_with fail
   refine HBC.out.mono ?_
   rintro y w3 ⟨rfl,h3⟩
   simp only [gve,Option.map_some]
   rw [← hxl]
   have c0 := h3.three.cell 0
   have c1 := h3.three.cell 1
   have c2 := h3.three.cell 2
   have c3 := h3.three.cell 3
   have c4 := h3.three.cell 4
   simp at c0 c1 c2 c3 c4
   have h3b : Own w0 w3 (Cells bh #[.int .u8 1,.int .u8 (c : Int),.int .u32 (e : Int),.int .u32 (t : Int),.int .u32 0] 29 :: Cells b LC 128 :: Ringe rb k (H.map HeE.r) :: l) := h3.three
   have h4 := h3b.allocC #[.int .u8 1,.int .u8 (c : Int),.int .u32 (e : Int),.int .u32 (t : Int),.int .u32 0] 29
   have p7 := P7.out _ _ h3b.two
   have n1 := h3b.two.lt
   have n2 : w3.heap.size ≠ b := by omega
   have H3B : Hid (Own w0 _ _) := h3b
   have y0 := h4.froz 0
   have y4 := h4.froz 4
   have z0 := h4.cell 0
   have z4 := h4.cell 4
   simp at z0 z4
   have H4 : Hid (Own w0 _ _) := h4.drew
   clear h3 h3b h4 HBC hxl
   go_wp2
   go_cut [] (fun wc => Own w0 wc (Cells w3.heap.size #[.int .u8 2,.int .u8 (c : Int),.int .u32 (e : Int),.int .u32 (t : Int),.int .u32 (at_ : Int)] 29 :: Cells bh #[.int .u8 1,.int .u8 (c : Int),.int .u32 (e : Int),.int .u32 (t : Int),.int .u32 0] 29 :: Cells b LC 128 :: Ringe rb k (H.map HeE.r) :: l))
   case first =>
    go_region_law (fail)
    all_goals
     go_wp2
     go_meet
     case rel =>
      first
       | exact (H3B.out.allocC #[.int .u8 2,.int .u8 (c : Int),.int .u32 (e : Int),.int .u32 (t : Int),.int .u32 (at_ : Int)] 29).drew
       | exact H3B.out.drew.allocC #[.int .u8 2,.int .u8 (c : Int),.int .u32 (e : Int),.int .u32 (t : Int),.int .u32 (at_ : Int)] 29
       | (have h5 := (H4.out.setC 0 (.int .u8 2)).setC 4 (.int .u32 (at_ : Int))
          simp at h5
          exact h5)
   case rest =>
    have h5 := hcut
    clear hcut H4 H3B n1 n2 y0 y4 z0 z4 c0 c1 c2 c3 c4 p7 P7
    generalize w3.heap.size = bs at *
    have c0 := h5.cell 0
    have c1 := h5.cell 1
    have c2 := h5.cell 2
    have c3 := h5.cell 3
    have c4 := h5.cell 4
    simp at c0 c1 c2 c3 c4
    have hw := HWS.out wc [_,_] _ HMX.out h5.three
    simp only [HXL.out] at hw
    have HW2 : Hid (Calls _ _ _ _ _) := hw
    clear h5 hw HWS
    go_wp2_with fail
    refine HW2.out.mono ?_
    rintro y w4 ⟨v,rfl,h6⟩
    clear HW2 c0 c1 c2 c3 c4
    cases hwf : wfit 2 c e t at_ (evs xL) (evs N) bud with
    | true =>
     have HWF : Hid (wfit 2 c e t at_ (evs xL) (evs N) bud = true) := hwf
     have h7 := h6.three.tail.three.tail
     have e : wfr 2 c e t at_ (evs xL) (evs N) bud = lfrm c e bud t (some (at_,evs xL)) (evs N) := by unfold wfr lfrm; simp only [hwf,if_true]
     rw [e] at h7
     have H7 : Hid (Own w0 _ _) := h7
     clear h6 h7 e hwf HWI
     go_wp2
     go_ret2
     have e2 : lfit c e bud t (some (at_,evs xL)) (evs N) = true := by unfold lfit; simp only [HWF.out,Bool.true_or]
     refine ⟨v,?_,H7.out⟩
     show _ = Ending.returned (.tuple #[v,.bool (lfit c e bud t (some (at_,evs xL)) (evs N))])
     rw [e2]; rfl
    | false =>
     have HWF : Hid (wfit 2 c e t at_ (evs xL) (evs N) bud = false) := hwf
     have h7 := h6.tail
     have d0 := h7.three.cell 0
     have d1 := h7.three.cell 1
     have d2 := h7.three.cell 2
     have d3 := h7.three.cell 3
     have d4 := h7.three.cell 4
     simp at d0 d1 d2 d3 d4
     have HW3 : Hid (Calls _ _ _ _ _) := HWI.out w4 [_,_] h7
     clear h6 h7 hwf HWI
     go_wp2_with fail
     refine HW3.out.mono ?_
     rintro y w5 ⟨v5,rfl,h8⟩
     have h9 := h8.three.tail.three.tail
     have e : wfr 1 c e t 0 [] (evs N) bud = lfrm c e bud t (some (at_,evs xL)) (evs N) := by unfold lfrm; simp only [HWF.out]; simp
     rw [e] at h9
     have H9 : Hid (Own w0 _ _) := h9
     clear h8 h9 e HW3 d0 d1 d2 d3 d4
     go_wp2
     go_ret2
     have e2 : lfit c e bud t (some (at_,evs xL)) (evs N) = wfit 1 c e t 0 [] (evs N) bud := by unfold lfit; simp only [HWF.out,Bool.false_or]
     refine ⟨v5,?_,H9.out⟩
     show _ = Ending.returned (.tuple #[v5,.bool (lfit c e bud t (some (at_,evs xL)) (evs N))])
     rw [e2]; rfl
theorem lallow (w : World) (ss : Bool) (st t : Nat) : Calls Tryz.prog 59 #[.agg #[.bool ss,.int .u32 (st : Int)],.int .u32 (t : Int)] w fun x w' => x = .returned (.bool (!(ss && decide (t ≤ st)))) ∧ Fr Nobody w w' := by
 have hB := (Own.start w).allocC #[.bool ss,.int .u32 (st : Int)] 126
 have HB : Hid (Own w _ _) := hB
 have q0 := hB.cell 0
 have q1 := hB.cell 1
 simp at q0 q1
 clear hB
 cases ss with
 | false =>
  go_enter Tryz.func59,Tryz.ntmps59
  go_wp2
  go_ret
  exact ⟨rfl,HB.out.fr⟩
 | true =>
  by_cases h : t ≤ st
  ·have h' : ¬ (st : Int) < (t : Int) := by omega
   rw [decide_eq_true h]
   clear h
   go_enter Tryz.func59,Tryz.ntmps59
   go_wp2
   go_ret
   exact ⟨by simp,HB.out.fr⟩
  ·have h' : (st : Int) < (t : Int) := by omega
   rw [decide_eq_false h]
   clear h
   go_enter Tryz.func59,Tryz.ntmps59
   go_wp2
   go_ret
   exact ⟨by simp,HB.out.fr⟩
theorem lnew (w0 w : World) (l : List Thing) (h : Own w0 w l) (c e : Nat) (hc : c < 16) (he : e ≠ 0) (k bud : Nat) (hk : 1 ≤ k) (hk2 : k ≤ 64) (hb : 1 ≤ bud) (hb2 : bud ≤ 4100) :
  Calls Tryz.prog 20 #[.int .u8 (c : Int),.int .u32 (e : Int),.int .i64 (k : Int),.int .i64 (bud : Int)] w fun x w' => ∃ b rb,x = .returned (.tuple #[.pointer (some ⟨b,0,none⟩),.int .i64 0]) ∧ Own w0 w' (Cells b (lc c e bud rb false 0 false 0) 128 :: Ringe rb k [] :: l) := by
 have HN : Hid (Calls _ _ _ _ _) := newe w0 w l k h hk hk2
 have g1 : ¬ (16 : Int) ≤ (c : Int) := by omega
 have g2 : ((e : Int) == 0) = false := by rw [beq_eq_false_iff_ne]; omega
 have g3 : ¬ (bud : Int) < 1 := by omega
 have g4 : ¬ (4100 : Int) < (bud : Int) := by omega
 clear h hc he hk hk2 hb hb2
 go_enter Tryz.func20,Tryz.ntmps20
 go_wp2_with fail
 refine HN.out.mono ?_
 rintro x w1 ⟨rb,rfl,h1⟩
 have H1 : Hid (Own w0 _ _) := h1.allocC (lc c e bud rb false 0 false 0) 128
 clear h1 HN
 go_wp2
 go_ret2
 exact ⟨_,rb,rfl,H1.out⟩
def putH (k : Nat) (H : List HeE) (x : HeE) : List HeE := if k < H.length + 1 then (H ++ [x]).drop 1 else H ++ [x]
theorem putH_r (k : Nat) (H : List HeE) (x : HeE) (h : ∀ y ∈ H,y.t < x.t) : rput k (H.map HeE.r) x.t (x.ao,x.L.length,x.cap) = (0,(putH k H x).map HeE.r) := by
 unfold rput putH
 rw [if_neg]
 ·rw [List.length_map]
  have e : H.map HeE.r ++ [(x.t,(x.ao,x.L.length,x.cap))] = (H ++ [x]).map HeE.r := by simp [HeE.r]
  split
  ·rw [e,List.map_drop]
  ·rw [e]
 ·rintro ⟨e,he,hle⟩
  have hm := List.mem_of_getLast? he
  obtain ⟨y,hy,rfl⟩ := List.mem_map.1 hm
  have := h y hy
  have e2 : (HeE.r y).1 = y.t := rfl
  omega
theorem putH_mem {k : Nat} {H : List HeE} {x y : HeE} (h : y ∈ putH k H x) : y ∈ H ∨ y = x := by
 unfold putH at h
 have h2 : y ∈ H ++ [x] := by
  split at h
  ·exact List.mem_of_mem_drop h
  ·exact h
 rcases List.mem_append.1 h2 with h2 | h2
 ·exact .inl h2
 ·exact .inr (List.mem_singleton.1 h2)
def SendR (c e bud : Nat) (ss : Bool) (st : Nat) (bo : Option (Nat × List En)) (t : Nat) (N : List En) (code : Nat) (P : List Nat) (ss' : Bool) (st' : Nat) (put : Bool) : Prop :=
 (ss = true ∧ t ≤ st ∧ code = 12 ∧ P = [] ∧ ss' = ss ∧ st' = st ∧ put = false) ∨ ((ss && decide (t ≤ st)) = false ∧ fm 0 N ≠ 0 ∧ code = fm 0 N ∧ P = [] ∧ ss' = ss ∧ st' = st ∧ put = false) ∨ ((ss && decide (t ≤ st)) = false ∧ fm 0 N = 0 ∧ lfit c e bud t bo N = false ∧ code = 3 ∧ P = [] ∧ ss' = true ∧ st' = t ∧ put = false) ∨ ((ss && decide (t ≤ st)) = false ∧ fm 0 N = 0 ∧ lfit c e bud t bo N = true ∧ code = 0 ∧ P = lfrm c e bud t bo N ∧ ss' = true ∧ st' = t ∧ put = true)
theorem lsend (w0 w : World) (htb : Tab w0) (htf : Tabf w0) (l : List Thing) (b c e bud rb k st at_ : Nat) (ss as_ : Bool) (H : List HeE) (hR : ROk k (H.map HeE.r)) (hH : HOk H) (hT : ∀ x ∈ H,ss = true ∧ x.t ≤ st) (hbud : bud ≤ 4100) (hc : c < 256) (he : e < 4294967296) (ha : at_ < 4294967296) (h : Own w0 w (Cells b (lc c e bud rb ss st as_ at_) 128 :: Ringe rb k (H.map HeE.r) :: l)) (t : Nat) (ht : t < 4294967296) (an : Option Addr) (nn cn : Nat) (N : List EnE) (hQ : ∀ w',Own w0 w' l → EntsAt w' an N ∧ ∀ x ∈ H,EntsAt w' x.ao x.L) (hN : N.length = nn) (hcn : nn ≤ cn) (hmn : cn ≤ 9223372036854775807) (hIN : EIn N) (hzN : esz N ≤ 400) :
  Calls Tryz.prog 23 #[.pointer (some ⟨b,0,none⟩),.int .u32 (t : Int),.slice an nn cn] w fun x w' => ∃ (v : Value) (code : Nat) (P : List Nat) (ss' : Bool) (st' : Nat) (put : Bool) (y : HeE),x = .returned (.tuple #[v,.int .i64 (code : Int)]) ∧ SendR c e bud ss st (lbo H as_ at_) t (evs N) code P ss' st' put ∧ y.t = t ∧ evs y.L = evs N ∧ HOk [y] ∧ Own w0 w' (Row 5 1 v P.length (vrow P) :: Cells b (lc c e bud rb ss' st' as_ at_) 128 :: Ringe rb k ((if put = true then putH k H y else H).map HeE.r) :: ((if put = true then [EntsT y.ao y.cap y.L] else []) ++ l)) := by
 obtain ⟨bo,hbo⟩ : ∃ bo,bo = lbo H as_ at_ := ⟨_,rfl⟩
 have hcell : ∀ W l',Own w0 W (Cells b (lc c e bud rb ss st as_ at_) 128 :: l') → W.cell? ⟨b,4,none⟩ = some (.bool ss) ∧ W.cell? ⟨b,5,none⟩ = some (.int .u32 (st : Int)) ∧ W.frozen? ⟨b,4,none⟩ = false ∧ W.frozen? ⟨b,5,none⟩ = false := fun W l' hW => by
  have h4 := hW.cell 4
  have h5 := hW.cell 5
  simp [lc] at h4 h5
  exact ⟨h4,h5,hW.froz 4,hW.froz 5⟩
 have HY0 : Hid (HOk [⟨t,an,cn,N⟩]) := fun x hx => by
  rw [List.mem_singleton.1 hx]
  exact ⟨by show N.length ≤ cn; omega,hmn,hIN,hzN⟩
 have HAL : Hid (Calls _ _ _ _ _) := lallow w ss st t
 have HFM : Hid (∀ W l',Own w0 W (l' ++ l) → Calls Tryz.prog 60 #[.slice an nn cn] W fun x w' => x = .returned (.int .i64 ((fm 0 (evs N) : Nat) : Int)) ∧ Fr Nobody W w') := fun W l' hW => form_any W (htb.quiet hW.fr) an nn cn N (hQ W hW.dropA).1 hN hIN (by omega)
 have HFR : Hid (∀ W,Own w0 W (Cells b (lc c e bud rb true t as_ at_) 128 :: Ringe rb k (H.map HeE.r) :: l) → Calls Tryz.prog 61 #[.pointer (some ⟨b,0,none⟩),.int .u32 (t : Int),.slice an nn cn] W fun x w' => ∃ v,x = .returned (.tuple #[v,.bool (lfit c e bud t bo (evs N))]) ∧ Own w0 w' (Row 5 1 v (lfrm c e bud t bo (evs N)).length (vrow (lfrm c e bud t bo (evs N))) :: Cells b (lc c e bud rb true t as_ at_) 128 :: Ringe rb k (H.map HeE.r) :: l)) := fun W hW => by
  rw [hbo]
  exact lframe w0 W htb htf l b c e bud rb k t at_ true as_ H hR hH hbud hc he ha hW t ht an nn cn N hQ hN hcn hmn hIN hzN
 have HCP : Hid (∀ W l',Own w0 W (l' ++ l) → Calls Tryz.prog 63 #[.slice an nn cn] W fun x w' => ∃ (ao : Option Addr) (cap : Nat),x = .returned (.slice ao nn cap) ∧ ∃ M : List EnE,M.length = nn ∧ evs M = evs N ∧ Own w0 w' (EntsT ao cap M :: (l' ++ l))) := fun W l' hW => copy_any w0 W _ hW an nn cn N (fun w' hw => (hQ w' hw.dropA).1) hN (by omega)
 have HIN : Hid (EIn N ∧ esz N ≤ 400) := ⟨hIN,hzN⟩
 have HTK : Hid ((∀ y ∈ H,ss = true ∧ y.t ≤ st) ∧ ROk k (H.map HeE.r) ∧ t < 4294967296) := ⟨hT,hR,ht⟩
 have HO : Hid (Own w0 w _) := h
 obtain ⟨p4,p5,-,-⟩ := hcell w _ h
 have hfl := fm_lt 0 (evs N)
 obtain ⟨fx,hfx⟩ : ∃ fx,fx = fm 0 (evs N) := ⟨_,rfl⟩
 rw [← hfx] at HFM hfl
 have HFX : Hid (fx = fm 0 (evs N)) := hfx
 rw [← hbo]
 clear h hQ hN hcn hmn hIN hzN htb htf hR hH hT hbud hc he ha ht hbo hfx
 go_enter Tryz.func23,Tryz.ntmps23
 go_wp2_with fail
 refine HAL.out.mono ?_
 rintro x w1 ⟨rfl,hf1⟩
 have h1 := HO.out.quiet hf1
 clear HAL hf1 HO p4 p5
 cases hst : (ss && decide (t ≤ st)) with
 | true =>
  have HST : Hid (ss = true ∧ t ≤ st) := by show _ ∧ _; simpa using hst
  have H1 : Hid (Own w0 _ _) := h1
  clear hst h1 hcell HFM HFR HCP
  go_wp2
  go_ret2
  exact ⟨_,12,[],ss,st,false,⟨t,an,cn,N⟩,rfl,.inl ⟨HST.out.1,HST.out.2,rfl,rfl,rfl,rfl,rfl⟩,rfl,rfl,HY0.out,H1.out.nilRow _ _⟩
 | false =>
  have HST : Hid ((ss && decide (t ≤ st)) = false) := hst
  have HFC : Hid (Calls _ _ _ _ _) := HFM.out w1 [_,_] h1
  have H1 : Hid (Own w0 _ _) := h1
  clear hst h1 HFM
  go_wp2_with fail
  refine HFC.out.mono ?_
  rintro x w2 ⟨rfl,hf2⟩
  have h2 := H1.out.quiet hf2
  clear HFC hf2 H1
  by_cases hx0 : fx = 0
  ·subst hx0
   obtain ⟨x4,x5,z4,z5⟩ := hcell w2 _ h2
   have h3 := (h2.setC 4 (.bool true)).setC 5 (.int .u32 (t : Int))
   simp [lc] at h3
   have HF2 : Hid (Calls _ _ _ _ _) := HFR.out _ h3
   clear h2 h3 HFR hcell
   go_wp2_with fail
   refine HF2.out.mono ?_
   rintro x w3 ⟨v,rfl,h3⟩
   cases hlf : lfit c e bud t bo (evs N) with
   | false =>
    have HLF : Hid (lfit c e bud t bo (evs N) = false) := hlf
    have H3 : Hid (Own w0 _ _) := h3.tail
    clear hlf h3 HF2 HCP
    go_wp2
    go_ret2
    exact ⟨_,3,[],true,t,false,⟨t,an,cn,N⟩,rfl,.inr (.inr (.inl ⟨HST.out,HFX.out.symm,HLF.out,rfl,rfl,rfl,rfl,rfl⟩)),rfl,rfl,HY0.out,H3.out.nilRow _ _⟩
   | true =>
    have HLF : Hid (lfit c e bud t bo (evs N) = true) := hlf
    obtain ⟨av,cv,rfl⟩ := row_any h3.row
    have p3 := h3.two.cell 3
    simp [lc] at p3
    have H3 : Hid (Own w0 _ _) := h3.drew
    have HLT : Hid (∀ y ∈ H,y.t < t) := fun y hy => by
     have h1 := HTK.out.1 y hy
     have h2 := HST.out
     rw [h1.1] at h2
     simp at h2
     omega
    clear hlf h3 HF2
    go_wp2
    go_region_law
     (first
       | (go_simp; go_at_call 63; refine (HCP.out _ [_,_,_] H3.out).mono ?_; rintro x w5 ⟨ao,cap,rfl,M,hM1,hM2,h5⟩; dsimp only
          have u3 := (Own.three h5).cell 3
          simp [lc] at u3
          have hec := h5.entsCap
          have HM : Hid (M.length = nn ∧ evs M = evs N ∧ M.length ≤ cap ∧ cap ≤ 9223372036854775807) := ⟨hM1,hM2,hec.1,hec.2⟩
          have H5 : Hid (Own w0 _ _) := Own.four h5
          clear h5 hM1 hM2 hec)
       | (go_simp; go_at_call 62; refine (pute w0 _ _ rb k (H.map HeE.r) t (ao,nn,cap) H5.out HTK.out.2.1 HTK.out.2.2).mono ?_; rintro x w6 ⟨rfl,h6⟩; dsimp only
          have H6 : Hid (Own w0 w6 _) := h6
          clear h6))
    all_goals
     go_wp2
     go_ret2
     obtain rfl : M.length = nn := HM.out.1
     have h6 := H6.out
     have hp := putH_r k H ⟨t,ao,cap,M⟩ HLT.out
     simp only at hp
     rw [hp] at h6
     refine ⟨_,0,lfrm c e bud t bo (evs N),true,t,true,⟨t,ao,cap,M⟩,rfl,.inr (.inr (.inr ⟨HST.out,HFX.out.symm,HLF.out,rfl,rfl,rfl,rfl,rfl⟩)),rfl,HM.out.2.1,?_,?_⟩
     ·intro y hy
      rw [List.mem_singleton.1 hy]
      exact ⟨HM.out.2.2.1,HM.out.2.2.2,EIn.of_evs HM.out.2.1 HIN.out.1,by rw [esz_evs HM.out.2.1]; exact HIN.out.2⟩
     ·exact h6.perm (List.perm_append_comm_assoc [_,_] [_,_] _)
  ·have hx1 : ((fx : Int) != 0) = true := by simpa using hx0
   have H2 : Hid (Own w0 _ _) := h2
   have HNE : Hid (fx ≠ 0) := hx0
   clear hx0 h2 hcell HFR HCP
   go_wp2
   go_ret2
   exact ⟨_,fx,[],ss,st,false,⟨t,an,cn,N⟩,rfl,.inr (.inl ⟨HST.out,by rw [← HFX.out]; exact HNE.out,HFX.out,rfl,rfl,rfl,rfl⟩),rfl,rfl,HY0.out,H2.out.nilRow _ _⟩
def AckR (as_ : Bool) (at_ : Nat) (H : List HeE) (t : Nat) (code : Nat) (as' : Bool) (at' n : Nat) : Prop :=
 (as_ = true ∧ t ≤ at_ ∧ code = 12 ∧ as' = as_ ∧ at' = at_ ∧ n = 0) ∨ ((as_ && decide (t ≤ at_)) = false ∧ hget H t = none ∧ code = 10 ∧ as' = as_ ∧ at' = at_ ∧ n = 0) ∨ ((as_ && decide (t ≤ at_)) = false ∧ (∃ x,hget H t = some x) ∧ code = 0 ∧ as' = true ∧ at' = t ∧ n = below t (H.map HeE.r))
theorem lack (w0 w : World) (l : List Thing) (b c e bud rb k st at_ : Nat) (ss as_ : Bool) (H : List HeE) (hR : ROk k (H.map HeE.r)) (h : Own w0 w (Cells b (lc c e bud rb ss st as_ at_) 128 :: Ringe rb k (H.map HeE.r) :: l)) (t : Nat) (ht : t < 4294967296) :
  Calls Tryz.prog 25 #[.pointer (some ⟨b,0,none⟩),.int .u32 (t : Int)] w fun x w' => ∃ (code : Nat) (as' : Bool) (at' n : Nat),x = .returned (.int .i64 (code : Int)) ∧ AckR as_ at_ H t code as' at' n ∧ Own w0 w' (Cells b (lc c e bud rb ss st as' at') 128 :: Ringe rb k ((H.drop n).map HeE.r) :: l) := by
 have p6 := h.cell 6
 have p7 := h.cell 7
 simp [lc] at p6 p7
 have HAL : Hid (Calls _ _ _ _ _) := lallow w as_ at_ t
 have HG : Hid (∀ W l',Own w0 W (Ringe rb k (H.map HeE.r) :: l') → Calls Tryz.prog 65 #[.pointer (some ⟨rb,0,none⟩),.int .u32 (t : Int)] W fun x w' => x = .returned (gve (rget (H.map HeE.r) t)) ∧ Own w0 w' (Ringe rb k (H.map HeE.r) :: l')) := fun W l' hW => gete w0 W l' rb k (H.map HeE.r) t hW hR
 have HC : Hid (∀ W l',Own w0 W (Ringe rb k (H.map HeE.r) :: l') → Calls Tryz.prog 66 #[.pointer (some ⟨rb,0,none⟩),.int .u32 (t : Int)] W fun x w' => x = .returned (.int .i64 (below t (H.map HeE.r) : Int)) ∧ Own w0 w' (Ringe rb k ((H.map HeE.r).drop (below t (H.map HeE.r))) :: l')) := fun W l' hW => cute w0 W l' rb k (H.map HeE.r) t hW hR
 have HO : Hid (Own w0 w _) := h
 obtain ⟨og,hog⟩ : ∃ og,og = hget H t := ⟨_,rfl⟩
 rw [rget_hget,← hog] at HG
 have HOG : Hid (og = hget H t) := hog
 clear h hR ht hog
 go_enter Tryz.func25,Tryz.ntmps25
 go_wp2_with fail
 refine HAL.out.mono ?_
 rintro x w1 ⟨rfl,hf1⟩
 have h1 := HO.out.quiet hf1
 clear HAL hf1 HO p6 p7
 cases hst : (as_ && decide (t ≤ at_)) with
 | true =>
  have HST : Hid (as_ = true ∧ t ≤ at_) := by show _ ∧ _; simpa using hst
  have H1 : Hid (Own w0 _ _) := h1
  clear hst h1 HG HC
  go_wp2
  go_ret
  exact ⟨12,as_,at_,0,rfl,.inl ⟨HST.out.1,HST.out.2,rfl,rfl,rfl,rfl⟩,H1.out⟩
 | false =>
  have HST : Hid ((as_ && decide (t ≤ at_)) = false) := hst
  have p3 := h1.cell 3
  simp [lc] at p3
  have HGC : Hid (Calls _ _ _ _ _) := HG.out w1 _ h1.two
  clear hst h1 HG
  rcases og with _ | x
  ·clear HC
   go_wp2_with fail
   refine HGC.out.mono ?_
   rintro y w2 ⟨rfl,h2⟩
   have H2 : Hid (Own w0 _ _) := h2.two
   clear h2 HGC p3
   simp only [Option.map_none,gve]
   go_wp2
   go_ret
   exact ⟨10,as_,at_,0,rfl,.inr (.inl ⟨HST.out,HOG.out.symm,rfl,rfl,rfl,rfl⟩),H2.out⟩
  ·go_wp2_with fail
   refine HGC.out.mono ?_
   rintro y w2 ⟨rfl,h2⟩
   have h3 := h2.two
   have x6 := h3.cell 6
   have x7 := h3.cell 7
   have z6 := h3.froz 6
   have z7 := h3.froz 7
   have x3 := h3.cell 3
   simp [lc] at x3 x6 x7
   have h4 := (h3.setC 6 (.bool true)).setC 7 (.int .u32 (t : Int))
   simp [lc] at h4
   have HCC : Hid (Calls _ _ _ _ _) := HC.out _ _ h4.two
   clear h2 h3 h4 HGC HC p3
   simp only [Option.map_some,gve]
   go_wp2_with fail
   refine HCC.out.mono ?_
   rintro y w3 ⟨rfl,h5⟩
   have H5 : Hid (Own w0 _ _) := h5.two
   clear h5 HCC x3 x6 x7 z6 z7
   go_wp2
   go_ret
   refine ⟨0,true,t,below t (H.map HeE.r),rfl,.inr (.inr ⟨HST.out,⟨x,HOG.out.symm⟩,rfl,rfl,rfl,rfl⟩),?_⟩
   rw [List.map_drop]
   exact H5.out
theorem lBase (w0 w : World) (l : List Thing) (b c e bud rb k st at_ : Nat) (ss as_ : Bool) (H : List HeE) (hR : ROk k (H.map HeE.r)) (h : Own w0 w (Cells b (lc c e bud rb ss st as_ at_) 128 :: Ringe rb k (H.map HeE.r) :: l)) :
  Calls Tryz.prog 27 #[.pointer (some ⟨b,0,none⟩)] w fun x w' => x = .returned (.tuple #[.int .u32 ((if (lbo H as_ at_).isSome = true then at_ else 0 : Nat) : Int),.bool (lbo H as_ at_).isSome]) ∧ Own w0 w' (Cells b (lc c e bud rb ss st as_ at_) 128 :: Ringe rb k (H.map HeE.r) :: l) := by
 have hb := lbase w0 w l b c e bud rb k st at_ ss as_ _ h hR
 obtain ⟨ob,hob⟩ : ∃ ob,ob = if as_ = true then hget H at_ else none := ⟨_,rfl⟩
 have hrg : (if as_ = true then rget (H.map HeE.r) at_ else none) = ob.map (fun x => (x.ao,x.L.length,x.cap)) := by rw [hob,rget_hget]; split <;> rfl
 have hlb : (lbo H as_ at_).isSome = ob.isSome := by unfold lbo; rw [hob]; split <;> simp
 rw [hrg] at hb
 rw [hlb]
 have HB : Hid (Calls _ _ _ _ _) := hb
 clear h hR hb hob hrg hlb
 rcases ob with _ | x
 ·go_enter Tryz.func27,Tryz.ntmps27
  go_wp2_with fail
  refine HB.out.mono ?_
  rintro y w2 ⟨rfl,h2⟩
  have H2 : Hid (Own w0 _ _) := h2
  clear h2 HB
  simp only [Option.map_none,gve]
  go_wp2
  go_ret2
  exact ⟨rfl,H2.out⟩
 ·go_enter Tryz.func27,Tryz.ntmps27
  go_wp2_with fail
  refine HB.out.mono ?_
  rintro y w2 ⟨rfl,h2⟩
  have p7 := h2.cell 7
  simp [lc] at p7
  have H2 : Hid (Own w0 _ _) := h2
  clear h2 HB
  simp only [Option.map_some,gve]
  go_wp2
  go_ret2
  exact ⟨rfl,H2.out⟩
end Go.Proofs.YtgifeckbflkkpaaGreatDoor
