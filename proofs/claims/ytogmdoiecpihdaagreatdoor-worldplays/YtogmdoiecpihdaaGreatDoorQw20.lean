/- The document's store: find, Ent. -/
import Derived.Test.YtogmdoiecpihdaaGreatDoorQw19
import Derived.Test.YtogmdoiecpihdaaGreatDoorQw17
import Derived.Test.YtogmdoiecpihdaaGreatDoorQw13
import Derived.Deep.RegionLaw
namespace Go.Proofs.YtogmdoiecpihdaaGreatDoor
open Go.RowKit Go.Maps
set_option linter.unusedVariables false
set_option maxHeartbeats 4000000
set_option maxRecDepth 100000
section
variable (w0 w : World) (l : List Thing) (b : Nat) (σ : Sto) (x : RX) (K : Nat)
theorem RSX.row (h : Own w0 w (RSX b σ.S x :: l)) (hx : RXok σ x K) (hT : ∀ m,m < 64 → TOk m (σ.T m)) (hK : K ≤ 1000000) (id j : Nat) (hj : j < 64) :
  Calls Tryz.prog 164 #[.pointer (some ⟨b,1 + j * 2,none⟩),.int .u32 (id : Int)] w fun e w' => e = .returned (.int .i64 (pl1 (plc (σ.T j) id))) ∧ Fr Nobody w w' := by
 have h' := RSX.out h hj
 rw [hx.E j hj] at h'
 exact rtrow w0 w _ b _ _ j _ h' (hT j hj).ap (Nat.le_trans (hx.len j hj) hK) id
theorem RSX.ids (h : Own w0 w (RSX b σ.S x :: l)) : w.cell? ⟨b,0,none⟩ = some (.pointer (some ⟨x.bs,0,none⟩)) := by
 have := (RSX.iff.1 h).cell 0
 rw [rscells_ids] at this
 exact this
theorem RSX.ent (h : Own w0 w (RSX b σ.S x :: l)) (m r : Nat) (hm : m < 64) (d : REnt) (hd : (x.E m)[r]? = some d) :
  ∃ g cap,r < (x.E m).length ∧ w.cell? ⟨b,1 + m * 2 + 1,none⟩ = some (.slice (some ⟨g,0,none⟩) (x.E m).length cap) ∧ w.cell? ⟨g,r * 2,none⟩ = some (.int .u32 (d.1 : Int)) ∧ w.cell? ⟨g,r * 2 + 1,none⟩ = some (.slice d.2.2.1 d.2.1.length d.2.2.2) ∧ Cs w d.2.2.1 d.2.1 := by
 have h3 := RSX.iff.1 h
 have q := h3.cell (1 + m * 2 + 1)
 rw [rscells_v _ _ _ hm] at q
 have h4 := RTE.iff.1 ((RTabsOn.pull (k := m) (by simpa using hm)).1 h3.three)
 have hr := (List.getElem?_eq_some_iff.1 hd).1
 obtain ⟨g,cap,hv,_⟩ := row_shape h4.row (by omega)
 rw [hv] at q h4
 obtain ⟨c0,c1⟩ := ecell h4 r d hd
 have h5 : Own w0 w (rrow d :: (Row 76 2 (.slice (some ⟨g,0,none⟩) (x.E m).length cap) (x.E m).length (cat rcells (x.E m)) :: (((x.E m).eraseIdx r).map rrow ++ RTabsOn ((List.range 64).erase m) x.v x.E :: Cells b (rscells x.bs x.v) 186 :: RSlots x.bs σ.S x.f x.ck :: l))) := by
  refine h4.perm ?_
  have := ((map_pick rrow (x.E m) r d hd).append_right (RTabsOn ((List.range 64).erase m) x.v x.E :: Cells b (rscells x.bs x.v) 186 :: RSlots x.bs σ.S x.f x.ck :: l)).cons (Row 76 2 (.slice (some ⟨g,0,none⟩) (x.E m).length cap) (x.E m).length (cat rcells (x.E m)))
  exact this.trans (List.Perm.swap _ _ _)
 exact ⟨g,cap,hr,q,c0,c1,Own.rcs h5 rfl⟩
theorem rfind (h : Own w0 w (RSX b σ.S x :: l)) (hx : RXok σ x K) (hT : ∀ m,m < 64 → TOk m (σ.T m)) (hK : K ≤ 1000000) (id m0 : Nat) (hm : Whr σ id m0) :
  Calls Tryz.prog 163 #[.pointer (some ⟨b,0,none⟩),.int .u32 (id : Int)] w fun e w' => e = .returned (.pointer (if m0 < 64 then some ⟨b,1 + m0 * 2,none⟩ else none)) ∧ Fr Nobody w w' := by
 have HR : Hid (∀ w' j,j < 64 → Fr Nobody w w' → Calls Tryz.prog 164 #[.pointer (some ⟨b,1 + j * 2,none⟩),.int .u32 (id : Int)] w' fun e w'' => e = .returned (.int .i64 (pl1 (plc (σ.T j) id))) ∧ Fr Nobody w' w'') := fun w' j hj hf => RSX.row w0 w' l b σ x K (h.quiet hf) hx hT hK id j hj
 obtain ⟨hm6,hno,hyes⟩ := hm
 have HNO : Hid (∀ j,j < m0 → plc (σ.T j) id = none) := hno
 have HYES : Hid (m0 < 64 → ∃ r,plc (σ.T m0) id = some r) := hyes
 clear h hx hT hK hno hyes
 go_enter Tryz.func163,Tryz.ntmps163
 go_wp2
 go_loopw [6] (fun cv wr => ∃ j : Nat,j ≤ m0 ∧ cv = .int .i64 j ∧ Fr Nobody w wr) (fun cv _ => 64 - (intOf cv).toNat)
 case atStart => exact ⟨0,Nat.zero_le _,rfl,Fr.refl _ _⟩
 case round =>
  obtain ⟨j,hj,rfl,hf⟩ := hrel
  have HF : Hid (Fr Nobody w wr) := hf
  by_cases hlt : j < 64
  ·have hlt' : (j : Int) < 64 := by omega
   have HC : Hid (Calls _ _ _ _ _) := HR.out wr j hlt hf
   clear hf
   by_cases hjm : j < m0
   ·rw [HNO.out j hjm] at HC
    simp only [pl1] at HC
    go_wp2_with fail
    refine HC.out.mono ?_
    rintro e w1 ⟨rfl,hf1⟩
    have H1 : Hid (Fr Nobody w w1) := HF.out.trans hf1
    clear hf1
    go_wp2
    go_roundw
    case rel => exact ⟨j + 1,by omega,by go_num,H1.out⟩
    case measure => simp [intOf]; omega
   ·have hjm' : j = m0 := by omega
    subst hjm'
    obtain ⟨r,hr⟩ := HYES.out hlt
    rw [hr] at HC
    simp only [pl1] at HC
    have hr0 : (0 : Int) ≤ (r : Int) := by omega
    go_wp2_with fail
    refine HC.out.mono ?_
    rintro e w1 ⟨rfl,hf1⟩
    have H1 : Hid (Fr Nobody w w1) := HF.out.trans hf1
    clear hf1
    go_wp2
    go_ret
    exact ⟨rfl,H1.out⟩
  ·have hlt' : ¬ (j : Int) < 64 := by omega
   have hm64 : ¬ m0 < 64 := by omega
   clear hf
   go_wp2
   go_ret
   exact ⟨rfl,HF.out⟩
theorem rentNo (h : Own w0 w (RSX b σ.S x :: l)) (hx : RXok σ x K) (hσ : σ.Ok) (hK : K ≤ 1000000) (id : Nat) (hl : σ.S.isLive id = false) :
  Calls Tryz.prog 108 #[.pointer (some ⟨b,0,none⟩),.int .u32 (id : Int)] w fun e w' => e = .returned (.tuple #[.agg #[.int .u32 0,.slice none 0 0],.int .i64 7]) ∧ Own w0 w' (RSX b σ.S x :: l) := by
 have hA := h.allocC #[.int .u32 0,.slice none 0 0] 76
 have HFD : Hid (Calls _ _ _ _ _) := rfind w0 _ _ b σ x K hA.two hx hσ.t hK id 64 (whr_dead hσ hl)
 rw [if_neg (by decide)] at HFD
 have HA : Hid (Own w0 _ _) := hA
 clear h hA hx hσ hl
 go_enter Tryz.func108,Tryz.ntmps108
 go_wp2_with fail
 refine HFD.out.mono ?_
 rintro e w1 ⟨rfl,hf⟩
 have hO := HA.out.quiet hf
 have z0 := hO.cell 0
 have z1 := hO.cell 1
 simp at z0 z1
 have y0 := hO.froz 0
 have y1 := hO.froz 1
 have HF : Hid (Own w0 _ _) := (hO.setC 0 (.int .u32 0)).setC 1 (.slice none 0 0)
 clear hO hf HFD HA
 go_wp2
 (try simp only [Exit.inBlock,Exit.then])
 refine bodyPost_ret (v := .tuple #[.agg #[.int .u32 0,.slice none 0 0],.int .i64 7]) ?_ rfl ⟨rfl,HF.out.tail⟩
 rw [results_cell_tmp rfl]
 have r0 := HF.out.cell 0
 have r1 := HF.out.cell 1
 simp at r0 r1
 go_simp
theorem rent (h : Own w0 w (RSX b σ.S x :: l)) (hx : RXok σ x K) (hσ : σ.Ok) (hK : K ≤ 1000000) (id : Nat) (hl : σ.S.isLive id = true) (r : Nat) (hp : plc (σ.T (σ.hom id)) id = some r) (d : REnt) (hd : (x.E (σ.hom id))[r]? = some d) :
  Calls Tryz.prog 108 #[.pointer (some ⟨b,0,none⟩),.int .u32 (id : Int)] w fun e w' => e = .returned (.tuple #[.agg #[.int .u32 (d.1 : Int),.slice d.2.2.1 d.2.1.length d.2.2.2],.int .i64 0]) ∧ Own w0 w' (RSX b σ.S x :: l) := by
 have hA := h.allocC #[.int .u32 0,.slice none 0 0] 76
 obtain ⟨hw,h6⟩ := whr_live hσ hl
 have HFD : Hid (Calls _ _ _ _ _) := rfind w0 _ _ b σ x K hA.two hx hσ.t hK id _ hw
 rw [if_pos h6] at HFD
 have HRW : Hid (∀ w' l',Own w0 w' (RSX b σ.S x :: l') → Calls Tryz.prog 164 #[.pointer (some ⟨b,1 + σ.hom id * 2,none⟩),.int .u32 (id : Int)] w' fun e w'' => e = .returned (.int .i64 (r : Int)) ∧ Fr Nobody w' w'') := by
  intro w' l' h'
  have := RSX.row w0 w' l' b σ x K h' hx hσ.t hK id _ h6
  rw [hp] at this
  exact this
 have HEN : Hid (∀ w' l',Own w0 w' (RSX b σ.S x :: l') → ∃ g cap,r < (x.E (σ.hom id)).length ∧ w'.cell? ⟨b,1 + σ.hom id * 2 + 1,none⟩ = some (.slice (some ⟨g,0,none⟩) (x.E (σ.hom id)).length cap) ∧ w'.cell? ⟨g,r * 2,none⟩ = some (.int .u32 (d.1 : Int)) ∧ w'.cell? ⟨g,r * 2 + 1,none⟩ = some (.slice d.2.2.1 d.2.1.length d.2.2.2) ∧ Cs w' d.2.2.1 d.2.1) := fun w' l' h' => RSX.ent w0 w' l' b σ x h' _ r h6 d hd
 have HA : Hid (Own w0 _ _) := hA
 clear h hA hx hσ hl hw hp hd h6
 generalize σ.hom id = m at *
 generalize (x.E m).length = en at *
 obtain ⟨d1,d2,d3,d4⟩ := d
 simp only at HEN ⊢
 generalize d2.length = dl at *
 go_enter Tryz.func108,Tryz.ntmps108
 go_wp2_with fail
 refine HFD.out.mono ?_
 rintro e w1 ⟨rfl,hf⟩
 have hO := (HA.out.quiet hf).drew
 obtain ⟨g,cap,hrn,q1,q2,q3,_⟩ := HEN.out _ _ hO.two
 have hrn' : (r : Int) < (en : Int) := by omega
 have hr0 : ¬ (r : Int) < 0 := by omega
 have HO : Hid (Own w0 w1.drew _) := hO
 clear hf HFD HA hO
 go_wp2_with fail
 go_region_with (
  go_at_call 164
  refine (HRW.out _ _ HO.out.two).mono ?_
  rintro e w3 ⟨rfl,hf3⟩
  have hO3 := HO.out.quiet hf3
  have hb1 := World.block_lt_of_cell? w1.drew _ q1
  have hb2 := World.block_lt_of_cell? w1.drew _ q2
  have p1 := (hf3.cell (p := ⟨b,1 + m * 2 + 1,none⟩) hb1 (fun h => h)).trans q1
  have p2 := (hf3.cell (p := ⟨g,r * 2,none⟩) hb2 (fun h => h)).trans q2
  have p3 := (hf3.cell (p := ⟨g,r * 2 + 1,none⟩) hb2 (fun h => h)).trans q3
  have z0 := hO3.cell 0
  have z1 := hO3.cell 1
  simp at z0 z1
  have y0 := hO3.froz 0
  have y1 := hO3.froz 1
  have HF : Hid (Own w0 _ _) := (hO3.setC 0 (.int .u32 (d1 : Int))).setC 1 (.slice d3 dl d4)
  clear hO3 hf3 hb1 hb2)
 all_goals
  go_wp2
  (try simp only [Exit.inBlock,Exit.then])
  refine bodyPost_ret (v := .tuple #[.agg #[.int .u32 (d1 : Int),.slice d3 dl d4],.int .i64 0]) ?_ rfl ⟨rfl,HF.out.tail⟩
  rw [results_cell_tmp rfl]
  have r0 := HF.out.cell 0
  have r1 := HF.out.cell 1
  simp at r0 r1
  go_simp
end
theorem step_twin {ops : Array Oper} {o : Oper} {a : Act} {w : World} {K : Act → World → Prop} {Q : Exit → Act → World → Prop} {E : Prop}
  (hg : o.guard = none) (x : Operand) (t : TypeId) (hop : o.op = Op.call { callee := Callee.value (Operand.func 42),args := #[x],argTypes := #[t] })
  (vx : Value) (hx : a.eval x = vx) (G : Value → World → Prop) (hcall : Calls Tryz.prog 42 #[vx] w fun e w' => ∃ v',e = .returned v' ∧ G v' w')
  (hK : ∀ v' w',G v' w' → K (a.put o.dst v') w') :
  if Region.wanted o (yielded ops a.tmps) = true then Oper.wp Tryz.prog o a w K Q else E := by
 have hw : Region.wanted o (yielded ops a.tmps) = true := by simp [Region.wanted,hg]
 rw [if_pos hw]
 unfold Oper.wp
 have hfn : a.eval (Operand.func 42) = .func (.func 42) #[] #[] := rfl
 simp [execOp,hop,resolve,invoke,hx,hfn,Deferred.ofValue]
 go_simp
 refine hcall.mono ?_
 rintro e w' ⟨v',rfl,h⟩
 exact hK v' w' h
theorem rtaddC (w0 w : World) (l : List Thing) (b o : Nat) (cur : Array Value) (m : Nat) (L : List Ent) (h : Own w0 w (RTab b o cur m L :: l)) (hT : TOk m L) (id : Nat) (hid : id < 4294967296) (ao : Option Addr) (len cap : Nat) (C : List Cp) (hCl : C.length = len) (hCs : ∀ w',Own w0 w' l → Cs w' ao C) (hCk : ∀ q ∈ C,q.k < 256) (hlen : len ≤ 1000000) (hL : L.length ≤ 1000000) :
  Calls Tryz.prog 217 #[.pointer (some ⟨b,o,none⟩),.int .u32 (id : Int),.slice ao len cap] w fun e w' => e = .returned (.int .i64 ((tadd m L id C).1 : Int)) ∧ Own w0 w' (RTab b o cur m (tadd m L id C).2 :: l) := by
 have HCU : Hid (cur[o]? = some (.int .u8 (m : Int)) ∧ o + 1 < cur.size) := RTab.facts h
 obtain ⟨i0,hi,hz0,hz1,hz2⟩ := info_parts Tryz.infoEnt
 have hm := hT.m64
 have H : Hid (Own w0 w (RTab b o cur m L :: l)) := h
 have HT : Hid (TOk m L) := hT
 have HCS : Hid (C.length = len ∧ (∀ w',Own w0 w' l → Cs w' ao C) ∧ ∀ q ∈ C,q.k < 256) := ⟨hCl,hCs,hCk⟩
 have HLS : Hid (Calls _ _ _ _ _) := rlist_any w ao len cap C hCl (hCs w h.tail) hCk hlen
 clear h hT hCl hCs hCk
 obtain ⟨x,hx⟩ : ∃ x,lst (-1) C = x := ⟨_,rfl⟩
 rw [hx] at HLS
 by_cases hx0 : x = 0
 ·subst hx0
  have HLST : Hid (lst (-1) C = 0) := hx
  have HR : Hid (∀ w',Own w0 w' (RTab b o cur m L :: l) → Calls Tryz.prog 164 #[.pointer (some ⟨b,o,none⟩),.int .u32 (id : Int)] w' fun e w'' => e = .returned (.int .i64 (pl1 (plc L id))) ∧ Fr Nobody w' w'') := fun w' h' => rtrow w0 w' _ b o cur m L h' HT.out.ap hL id
  have HMK : Hid (∀ w',Own w0 w' (RTab b o cur m L :: l) → Calls Tryz.prog 218 #[.slice ao len cap] w' fun e w'' => e = .returned (.int .u8 ((msk C : Nat) : Int)) ∧ Fr Nobody w' w'') := fun w' h' => rmask_any w' ao len cap C HCS.out.1 (HCS.out.2.1 w' h'.tail) HCS.out.2.2 hlen
  have HMC : Hid (∀ w',Own w0 w' (RTab b o cur m L :: l) → w'.cell? ⟨b,o,none⟩ = some (.int .u8 (m : Int))) := by
   intro w' h'
   obtain ⟨v,E,_,h'⟩ := RTab.open h'
   have q := h'.cell o
   rw [tcur_m,HCU.out.1] at q
   exact q
  have hm64 := msk_lt C
  by_cases hmk : msk C = m
  ·rw [hmk] at HMK hm64
   cases hp : plc L id with
   | some r =>
    have HV : Hid (tadd m L id C = (9,L)) := by show _ = _; unfold tadd; rw [if_neg (by simp [hx]),if_neg (by simp [hmk]),if_pos (by rw [hp]; rfl)]
    rw [hp] at HR
    simp only [pl1] at HR
    have hr0 : ¬ (r : Int) < 0 := by omega
    have hr1 : (0 : Int) ≤ (r : Int) := by omega
    clear hp hx hmk
    go_enter Tryz.func217,Tryz.ntmps217
    go_wp2_with fail
    refine HLS.out.mono ?_
    rintro e w1 ⟨rfl,hf⟩
    have H1 : Hid (Own w0 w1 (RTab b o cur m L :: l)) := H.out.quiet hf
    clear hf HLS H
    have q0 := HMC.out _ H1.out
    go_wp2_with fail
    go_region_with (
     go_at_call 218
     refine (HMK.out _ H1.out.drew).mono ?_
     rintro e w3 ⟨rfl,hf3⟩
     have H3 : Hid (Own w0 w3 (RTab b o cur m L :: l)) := H1.out.drew.quiet hf3
     have q3 := HMC.out _ H3.out
     clear hf3)
    all_goals
     go_wp2_with fail
     refine (HR.out _ H3.out).mono ?_
     rintro e w4 ⟨rfl,hf4⟩
     have H4 : Hid (Own w0 w4 (RTab b o cur m L :: l)) := H3.out.quiet hf4
     clear hf4
     go_wp2
     go_ret
     rw [HV.out]
     exact ⟨rfl,H4.out⟩
   | none =>
    have HV : Hid (tadd m L id C = (0,L ++ [(id,C)])) := by show _ = _; unfold tadd; rw [if_neg (by simp [hx]),if_neg (by simp [hmk]),if_neg (by rw [hp]; simp)]
    rw [hp] at HR
    simp only [pl1] at HR
    clear hp hx hmk
    go_enter Tryz.func217,Tryz.ntmps217
    go_wp2_with fail
    refine HLS.out.mono ?_
    rintro e w1 ⟨rfl,hf⟩
    have H1 : Hid (Own w0 w1 (RTab b o cur m L :: l)) := H.out.quiet hf
    clear hf HLS H
    have q0 := HMC.out _ H1.out
    go_wp2_with fail
    go_region_with (
     go_at_call 218
     refine (HMK.out _ H1.out.drew).mono ?_
     rintro e w3 ⟨rfl,hf3⟩
     have H3 : Hid (Own w0 w3 (RTab b o cur m L :: l)) := H1.out.drew.quiet hf3
     have q3 := HMC.out _ H3.out
     clear hf3)
    all_goals
     clear q0 q3 HMK H1
     go_wp2_with fail
     refine (HR.out _ H3.out).mono ?_
     rintro e w4 ⟨rfl,hf4⟩
     obtain ⟨v,E,hE,hO4⟩ := RTab.open (H3.out.quiet hf4)
     obtain ⟨ae,ce,rfl⟩ := row_any hO4.two.row
     have q1 := hO4.cell (o + 1)
     rw [tcur_at HCU.out.2] at q1
     have HEL : Hid (E.map REnt.e = L ∧ E.length = L.length) := ⟨hE,by rw [← hE,List.length_map]⟩
     have hen : E.length ≤ 1000000 := by rw [HEL.out.2]; exact hL
     have HTW : Hid (Calls _ _ _ _ _) := twin_any w0 w4.drew _ hO4.drew ao len cap C HCS.out.1 (HCS.out.2.1 _ ((H3.out.quiet hf4).drew.tail)) hlen
     clear hf4 hE HR H3
     generalize hEn : E.length = en at *
     have HEN : Hid (E.length = en) := hEn
     clear hEn hO4
     go_wp2_with fail
     go_region_law (first
      | (refine step_twin rfl (.tmp 32) 39 rfl _ (by first | (simp [Act.eval]; done) | simp [Act.eval,Act.put]) (fun v' w' => ∃ a2 c2,v' = .slice a2 len c2 ∧ Own w0 w' (Row 46 4 (.slice a2 len c2) len (ccat C) :: Cells b (cur.setIfInBounds (o + 1) (.slice ae en ce)) 186 :: Row 76 2 (.slice ae en ce) en (cat rcells E) :: (E.map rrow ++ l))) (HTW.out.mono fun e w' ⟨a2,c2,h1,h2⟩ => ⟨_,h1,a2,c2,rfl,h2⟩) ?_
         rintro v5 w5 ⟨a2,c2,rfl,hO5⟩
         have q5 := hO5.two.cell (o + 1)
         rw [tcur_at HCU.out.2] at q5
         obtain ⟨g6,c6,w6,hrun,hO6⟩ := run1_own (P := Tryz.prog) 62 62 76 i0 (.agg #[.int .u32 0,.slice none 0 0]) 2 32 Tryz.underlying62 hi hz0 hz1 hz2 rfl (by decide) _ en _ hO5.three #[.int .u32 (id : Int),.slice a2 len c2] rfl (by intro u hu; simp at hu; rcases hu with rfl | rfl <;> rfl) (by unfold maxLen; omega) (by omega)
         have hbw := hO5.two.lt
         have hbn : b ≠ w5.heap.size := by omega
         have hbn' : w5.heap.size ≠ b := by omega
         have HRUN : Hid _ := hrun
         have q6 := hO6.three.cell (o + 1)
         have z6 := hO6.three.froz (o + 1)
         rw [tcur_at HCU.out.2] at q6
         have HO6 : Hid (Own w0 w6 _) := hO6
         clear hO5 hO6 hrun)
      | (refine step_run rfl (.tmp 30) (.tmp 35) 62 62 62 rfl rfl (.slice ae en ce) (.slice (some ⟨w5.heap.size,0,none⟩) 1 1) (.slice (some ⟨g6,0,none⟩) (en + 1) c6) w6 (by first | (simp [Act.eval]; done) | simp [Act.eval,Act.put]) (by first | (simp [Act.eval]; done) | simp [Act.eval,Act.put]) HRUN.out ?_))
     all_goals
      have HFIN : Hid (Own w0 (w6.setCell ⟨b,o + 1,none⟩ (.slice (some ⟨g6,0,none⟩) (en + 1) c6)) (RTab b o cur m (L ++ [(id,C)]) :: l)) := by
       have h7 := HO6.out.three.setC (o + 1) (.slice (some ⟨g6,0,none⟩) (en + 1) c6)
       rw [Array.setIfInBounds_setIfInBounds] at h7
       refine RTab.shut (v := .slice (some ⟨g6,0,none⟩) (en + 1) c6) (E := E ++ [(id,C,a2,c2)]) (by rw [List.map_append,HEL.out.1]; rfl) HCU.out ?_
       rw [List.length_append,HEN.out,cat_append,List.map_append,List.append_assoc]
       have hcl := HCS.out.1
       have e2 : cat rcells [(id,C,a2,c2)] = [.int .u32 (id : Int),.slice a2 len c2] := by
        show [Value.int .u32 (id : Int),Value.slice a2 C.length c2] = _
        rw [hcl]
       rw [e2]
       refine h7.perm (List.Perm.cons _ (List.Perm.cons _ ?_))
       have e1 : rrow (id,C,a2,c2) = Row 46 4 (.slice a2 len c2) len (ccat C) := by unfold rrow REnt.v; simp only; rw [hcl]
       show (_ :: (E.map rrow ++ l)).Perm (E.map rrow ++ (rrow (id,C,a2,c2) :: l))
       rw [e1]
       exact List.perm_middle.symm
      clear HO6
      go_wp2
      go_ret
      rw [HV.out]
      exact ⟨rfl,HFIN.out⟩
  ·have HV : Hid (tadd m L id C = (4,L)) := by show _ = _; unfold tadd; rw [if_neg (by simp [hx]),if_pos hmk]
   have hne : ((msk C : Int) != (m : Int)) = true := by simp; omega
   clear hx
   generalize msk C = mc at *
   go_enter Tryz.func217,Tryz.ntmps217
   go_wp2_with fail
   refine HLS.out.mono ?_
   rintro e w1 ⟨rfl,hf⟩
   have H1 : Hid (Own w0 w1 (RTab b o cur m L :: l)) := H.out.quiet hf
   clear hf HLS H
   have q0 := HMC.out _ H1.out
   go_wp2_with fail
   go_region_with (
    go_at_call 218
    refine (HMK.out _ H1.out.drew).mono ?_
    rintro e w3 ⟨rfl,hf3⟩
    have H3 : Hid (Own w0 w3 (RTab b o cur m L :: l)) := H1.out.drew.quiet hf3
    have q3 := HMC.out _ H3.out
    clear hf3)
   all_goals
    go_wp2
    go_ret
    rw [HV.out]
    exact ⟨rfl,H3.out⟩
 ·have HV : Hid (tadd m L id C = (x,L)) := by show _ = _; unfold tadd; rw [if_pos (by rw [hx]; exact hx0),hx]
  have hx1 : ((x : Int) != 0) = true := by simpa using hx0
  clear hx
  go_enter Tryz.func217,Tryz.ntmps217
  go_wp2_with fail
  refine HLS.out.mono ?_
  rintro e w1 ⟨rfl,hf⟩
  have H1 : Hid (Own w0 w1 (RTab b o cur m L :: l)) := H.out.quiet hf
  clear hf HLS H
  go_wp2
  go_ret
  rw [HV.out]
  exact ⟨rfl,H1.out⟩
theorem TOk.c6 {m : Nat} {L : List Ent} (hT : TOk m L) {r : Nat} {e : Ent} (he : L[r]? = some e) : e.2.length ≤ 6 := by
 have := hT.ok e (List.mem_of_getElem? he)
 rw [← comps_of this.1 this.2,List.length_map]
 exact Nat.le_trans (List.length_filter_le _ _) (by simp)
theorem tget_has {m : Nat} {L : List Ent} (hT : TOk m L) {id r : Nat} {C : List Cp} (hp : plc L id = some r) (he : L[r]? = some (id,C)) {k i : Nat} {q : Cp} (hq : C[i]? = some q) (hqk : q.k = k) : tget m L id k = (0,q) := by
 obtain ⟨h1,h2⟩ := hT.ok _ (List.mem_of_getElem? he)
 have hm := List.mem_of_getElem? hq
 have h6 : k < 6 := by rw [← hqk]; exact chk_k ((lst_ok h1).2 q hm).2
 have hb : bt m k = true := by rw [← h2,bt_msk C k h6,hasK_iff]; exact ⟨q,hm,hqk⟩
 unfold tget
 rw [hp]
 simp only
 rw [if_pos hb,he]
 simp only [Option.map_some,Option.getD_some]
 rw [← hqk,fv_of h1 hm]
 rfl
theorem tget_not {m : Nat} {L : List Ent} (hT : TOk m L) {id r : Nat} {C : List Cp} (hp : plc L id = some r) (he : L[r]? = some (id,C)) {k : Nat} (hk : hasK C k = false) : tget m L id k = (10,⟨0,0,0,0⟩) := by
 obtain ⟨h1,h2⟩ := hT.ok _ (List.mem_of_getElem? he)
 have hb : bt m k = false := by
  cases hb : bt m k with
  | false => rfl
  | true => rw [hasK_bt h2 hT.m64 hb] at hk; cases hk
 unfold tget
 rw [hp]
 simp only
 rw [hb]
 rfl
section
variable (w0 w : World) (l : List Thing) (b o : Nat) (cur : Array Value) (m : Nat) (L : List Ent)
theorem rtgetC (h : Own w0 w (RTab b o cur m L :: l)) (hT : TOk m L) (hL : L.length ≤ 1000000) (id : Nat) (k : Nat) (hk : k < 256) :
  Calls Tryz.prog 215 #[.pointer (some ⟨b,o,none⟩),.int .u32 (id : Int),.int .u8 (k : Int)] w fun e w' => e = .returned (.tuple #[(tget m L id k).2.ag,.int .i64 ((tget m L id k).1 : Int)]) ∧ Own w0 w' (RTab b o cur m L :: l) := by
 have HCU : Hid (cur[o]? = some (.int .u8 (m : Int)) ∧ o + 1 < cur.size) := RTab.facts h
 have hA := h.allocC #[.int .u8 0,.int .i32 0,.int .i32 0,.int .i32 0] 46
 have z0 := hA.cell 0
 have z1 := hA.cell 1
 have z2 := hA.cell 2
 have z3 := hA.cell 3
 simp at z0 z1 z2 z3
 have y0 := hA.froz 0
 have y1 := hA.froz 1
 have y2 := hA.froz 2
 have y3 := hA.froz 3
 have HR : Hid (Calls _ _ _ _ _) := rtrow w0 _ _ b o cur m L hA.two hT.ap hL id
 have HA : Hid (Own w0 _ (Cells w.heap.size #[.int .u8 0,.int .i32 0,.int .i32 0,.int .i32 0] 46 :: RTab b o cur m L :: l)) := hA
 cases hp : plc L id with
 | none =>
  have HV : Hid (tget m L id k = (7,⟨0,0,0,0⟩)) := by show _ = _; unfold tget; rw [hp]
  rw [hp] at HR
  simp only [pl1] at HR
  clear h hA hp
  go_enter Tryz.func215,Tryz.ntmps215
  go_wp2_with fail
  refine HR.out.mono ?_
  rintro e w1 ⟨rfl,hf⟩
  have hO := HA.out.quiet hf
  have z0 := hO.cell 0
  have z1 := hO.cell 1
  have z2 := hO.cell 2
  have z3 := hO.cell 3
  simp at z0 z1 z2 z3
  have y0 := hO.froz 0
  have y1 := hO.froz 1
  have y2 := hO.froz 2
  have y3 := hO.froz 3
  have HF : Hid (Own w0 ((((w1.setCell ⟨w.heap.size,0,none⟩ (.int .u8 0)).setCell ⟨w.heap.size,1,none⟩ (.int .i32 0)).setCell ⟨w.heap.size,2,none⟩ (.int .i32 0)).setCell ⟨w.heap.size,3,none⟩ (.int .i32 0)) (Cells w.heap.size #[.int .u8 0,.int .i32 0,.int .i32 0,.int .i32 0] 46 :: RTab b o cur m L :: l)) :=
   (((hO.setC 0 (.int .u8 0)).setC 1 (.int .i32 0)).setC 2 (.int .i32 0)).setC 3 (.int .i32 0)
  clear HR hf hO
  go_wp2
  (try simp only [Exit.inBlock,Exit.then])
  refine bodyPost_ret (v := .tuple #[.agg #[.int .u8 0,.int .i32 0,.int .i32 0,.int .i32 0],.int .i64 7]) ?_ rfl ⟨by rw [HV.out]; rfl,HF.out.tail⟩
  rw [results_cell_tmp rfl]
  have r0 := HF.out.cell 0
  have r1 := HF.out.cell 1
  have r2 := HF.out.cell 2
  have r3 := HF.out.cell 3
  simp at r0 r1 r2 r3
  go_simp
 | some r =>
  obtain ⟨d,hd,hdi⟩ := (plc_some hT.ap id r).1 hp
  obtain ⟨did,C⟩ := d
  simp only at hdi
  subst hdi
  rw [hp] at HR
  simp only [pl1] at HR
  have hrL := (List.getElem?_eq_some_iff.1 hd).1
  have hr0 : ¬ (r : Int) < 0 := by omega
  have HG : Hid (∀ i q,C[i]? = some q → ∀ kk,q.k = kk → tget m L did kk = (0,q)) := fun i q hq kk hk => tget_has hT hp hd hq hk
  have HG2 : Hid (hasK C k = false → tget m L did k = (10,⟨0,0,0,0⟩)) := fun h => tget_not hT hp hd h
  have hCk : ∀ q ∈ C,q.k < 256 := fun q hq => by have := chk_k ((lst_ok (hT.ok _ (List.mem_of_getElem? hd)).1).2 q hq).2; omega
  have hC6 : C.length ≤ 6 := hT.c6 hd
  have HX : Hid (∀ w' l',Own w0 w' (RTab b o cur m L :: l') → ∃ g n cap ac cc,r < n ∧ w'.cell? ⟨b,o + 1,none⟩ = some (.slice (some ⟨g,0,none⟩) n cap) ∧ w'.cell? ⟨g,r * 2 + 1,none⟩ = some (.slice ac C.length cc) ∧ Cs w' ac C) := by
   intro w' l' h'
   obtain ⟨v,E,hE,h'⟩ := RTab.open h'
   have hlen : E.length = L.length := by rw [← hE,List.length_map]
   obtain ⟨g,cap,rfl,_⟩ := row_shape h'.two.row (by omega)
   have q1 := h'.cell (o + 1)
   rw [tcur_at HCU.out.2] at q1
   obtain ⟨e,he⟩ : ∃ e,E[r]? = some e := ⟨_,List.getElem?_eq_getElem (by omega)⟩
   have hee : e.e = (did,C) := by
    have : (E.map REnt.e)[r]? = some e.e := by rw [List.getElem?_map,he]; rfl
    rw [hE,hd] at this
    exact (Option.some.inj this).symm
   obtain ⟨e1,e2,e3,e4⟩ := e
   have e2' : e2 = C := (Prod.mk.inj hee).2
   subst e2'
   obtain ⟨_,c1⟩ := ecell h'.two r _ he
   have hpk := Own.pick r _ he h'
   exact ⟨g,E.length,cap,e3,e4,by omega,q1,c1,Own.rcs hpk rfl⟩
  clear h hA hp hd
  go_enter Tryz.func215,Tryz.ntmps215
  go_wp2_with fail
  refine HR.out.mono ?_
  rintro e w1 ⟨rfl,hf⟩
  have hO := HA.out.quiet hf
  obtain ⟨g,n,cap,ac,cc,hrn,q1,q2,hcs⟩ := HX.out _ _ hO.two
  have hrn' : (r : Int) < (n : Int) := by omega
  have H1 : Hid (Own w0 w1 (Cells w.heap.size #[.int .u8 0,.int .i32 0,.int .i32 0,.int .i32 0] 46 :: RTab b o cur m L :: l)) := hO
  have HFD : Hid (Calls _ _ _ _ _) := find_any w1 ac C.length cc C rfl hcs hCk (by omega) k hk
  have HCS : Hid (Cs w1 ac C) := hcs
  clear HR hf hO hcs HA z0 z1 z2 z3 y0 y1 y2 y3
  generalize hcl : C.length = cl at *
  go_wp2_with fail
  refine HFD.out.mono ?_
  rintro e w2 ⟨r2,rfl,hf2,hcase⟩
  have hO := H1.out.quiet hf2
  have z0 := hO.cell 0
  have z1 := hO.cell 1
  have z2 := hO.cell 2
  have z3 := hO.cell 3
  simp at z0 z1 z2 z3
  have y0 := hO.froz 0
  have y1 := hO.froz 1
  have y2 := hO.froz 2
  have y3 := hO.froz 3
  have hb1 := World.block_lt_of_cell? w1 _ q1
  have hb2 := World.block_lt_of_cell? w1 _ q2
  have p1 := (hf2.cell (p := ⟨b,o + 1,none⟩) hb1 id).trans q1
  have p2 := (hf2.cell (p := ⟨g,r * 2 + 1,none⟩) hb2 id).trans q2
  have HC2 : Hid (Cs w2 ac C) := HCS.out.quiet hf2
  have H2 : Hid (Own w0 w2 (Cells w.heap.size #[.int .u8 0,.int .i32 0,.int .i32 0,.int .i32 0] 46 :: RTab b o cur m L :: l)) := hO
  clear hf2 hO H1 HFD q1 q2 hb1 hb2 HCS HX
  rcases hcase with ⟨rfl,hno⟩ | ⟨i,rfl,q,hq,hqk,_⟩
  ·have HV : Hid (tget m L did k = (10,⟨0,0,0,0⟩)) := HG2.out hno
   have HF : Hid (Own w0 ((((w2.setCell ⟨w.heap.size,0,none⟩ (.int .u8 0)).setCell ⟨w.heap.size,1,none⟩ (.int .i32 0)).setCell ⟨w.heap.size,2,none⟩ (.int .i32 0)).setCell ⟨w.heap.size,3,none⟩ (.int .i32 0)) (Cells w.heap.size #[.int .u8 0,.int .i32 0,.int .i32 0,.int .i32 0] 46 :: RTab b o cur m L :: l)) :=
    (((H2.out.setC 0 (.int .u8 0)).setC 1 (.int .i32 0)).setC 2 (.int .i32 0)).setC 3 (.int .i32 0)
   clear hno
   go_wp2
   (try simp only [Exit.inBlock,Exit.then])
   refine bodyPost_ret (v := .tuple #[.agg #[.int .u8 0,.int .i32 0,.int .i32 0,.int .i32 0],.int .i64 10]) ?_ rfl ⟨by rw [HV.out]; rfl,HF.out.tail⟩
   rw [results_cell_tmp rfl]
   have r0 := HF.out.cell 0
   have r1 := HF.out.cell 1
   have r2 := HF.out.cell 2
   have r3 := HF.out.cell 3
   simp at r0 r1 r2 r3
   go_simp
  ·have HV : Hid (tget m L did k = (0,q)) := HG.out i q hq k hqk
   obtain ⟨gc,oc,hac,_,x0,x1,x2,x3⟩ := HC2.out.at i q hq
   subst hac
   have hic : i < cl := by rw [← hcl]; exact (List.getElem?_eq_some_iff.1 hq).1
   have hic' : (i : Int) < (cl : Int) := by omega
   have hi0 : ¬ (i : Int) < 0 := by omega
   clear hq hcl
   obtain ⟨qk,qa,qb,qc⟩ := q
   simp only at x0 x1 x2 x3
   have HF : Hid (Own w0 ((((w2.setCell ⟨w.heap.size,0,none⟩ (.int .u8 (qk : Int))).setCell ⟨w.heap.size,1,none⟩ (.int .i32 qa)).setCell ⟨w.heap.size,2,none⟩ (.int .i32 qb)).setCell ⟨w.heap.size,3,none⟩ (.int .i32 qc)) (Cells w.heap.size #[.int .u8 (qk : Int),.int .i32 qa,.int .i32 qb,.int .i32 qc] 46 :: RTab b o cur m L :: l)) :=
    (((H2.out.setC 0 (.int .u8 (qk : Int))).setC 1 (.int .i32 qa)).setC 2 (.int .i32 qb)).setC 3 (.int .i32 qc)
   clear hqk
   go_wp2
   (try simp only [Exit.inBlock,Exit.then])
   refine bodyPost_ret (v := .tuple #[.agg #[.int .u8 (qk : Int),.int .i32 qa,.int .i32 qb,.int .i32 qc],.int .i64 0]) ?_ rfl ⟨by rw [HV.out]; rfl,HF.out.tail⟩
   rw [results_cell_tmp rfl]
   have r0 := HF.out.cell 0
   have r1 := HF.out.cell 1
   have r2 := HF.out.cell 2
   have r3 := HF.out.cell 3
   simp at r0 r1 r2 r3
   go_simp
end
end Go.Proofs.YtogmdoiecpihdaaGreatDoor
