/- What becomes of one entity, kind by kind. -/
import Derived.Test.YtgifeckbflkkpaaGreatDoorQr25
import Derived.Test.YtgifeckbflkkpaaGreatDoorQr19
namespace Go.Proofs.YtgifeckbflkkpaaGreatDoor
open Go.RowKit
set_option linter.unusedVariables false
set_option maxHeartbeats 8000000
set_option maxRecDepth 100000
theorem fstE_some {L : List En} {i : Nat} {e : En} (h : fstE L i = some e) : e ∈ L ∧ e.1 = i := by
 unfold fstE at h
 exact ⟨List.mem_of_find?_eq_some h,by simpa using List.find?_some h⟩
theorem fstE_isNone {L : List En} {i : Nat} : (fstE L i).isNone = true ↔ ∀ x ∈ L,x.1 ≠ i := by
 unfold fstE
 simp
theorem up_eq {L : List En} (h : L.Pairwise (fun a b => a.1 < b.1)) {x y : En} (hx : x ∈ L) (hy : y ∈ L) (e : x.1 = y.1) : x = y := by
 induction L with
 | nil => cases hx
 | cons z t ih =>
  have h1 := List.pairwise_cons.1 h
  rcases List.mem_cons.1 hx with hxz | hxt
  ·rcases List.mem_cons.1 hy with hyz | hyt
   ·rw [hxz,hyz]
   ·have := h1.1 y hyt; rw [hxz] at e; omega
  ·rcases List.mem_cons.1 hy with hyz | hyt
   ·have := h1.1 x hxt; rw [hyz] at e; omega
   ·exact ih h1.2 hxt hyt
def bel (B : List Cp) (k : Nat) : List Cp := B.filter (fun q => decide (q.k < k))
theorem bel_none {B : List Cp} {k : Nat} (h : ∀ q ∈ B,k ≤ q.k) : bel B k = [] := by
 unfold bel
 rw [List.filter_eq_nil_iff]
 intro q hq
 have := h q hq
 simp; omega
theorem bel_all {B : List Cp} (h : ∀ q ∈ B,q.k < 6) : bel B 6 = B := by
 unfold bel
 rw [List.filter_eq_self]
 intro q hq
 simpa using h q hq
theorem bel_succ {B : List Cp} (k : Nat) : B.Pairwise (fun x y => x.k < y.k) → bel B (k + 1) = bel B k ++ (fst B k).toList := by
 induction B with
 | nil => intro _; rfl
 | cons q t ih =>
  intro h
  have h1 := List.pairwise_cons.1 h
  by_cases c1 : q.k < k
  ·have e1 : bel (q :: t) (k + 1) = q :: bel t (k + 1) := by
    have : q.k < k + 1 := by omega
    simp [bel,this]
   have e2 : bel (q :: t) k = q :: bel t k := by simp [bel,c1]
   have e3 : fst (q :: t) k = fst t k := by
    have : q.k ≠ k := by omega
    simp [fst,this]
   rw [e1,e2,e3,ih h1.2]; rfl
  ·have n1 : bel t (k + 1) = [] := bel_none (fun x hx => by have := h1.1 x hx; omega)
   have n2 : bel (q :: t) k = [] := bel_none (fun x hx => by
    rcases List.mem_cons.1 hx with rfl | hx
    ·omega
    ·have := h1.1 x hx; omega)
   by_cases c2 : q.k = k
   ·have e1 : bel (q :: t) (k + 1) = q :: bel t (k + 1) := by
     have : q.k < k + 1 := by omega
     simp [bel,this]
    have e3 : fst (q :: t) k = some q := by simp [fst,c2]
    rw [e1,n1,n2,e3]; rfl
   ·have e1 : bel (q :: t) (k + 1) = [] := bel_none (fun x hx => by
     rcases List.mem_cons.1 hx with rfl | hx
     ·omega
     ·have := h1.1 x hx; omega)
    have e3 : fst (q :: t) k = none := by
     unfold fst
     rw [List.find?_eq_none]
     intro x hx
     rcases List.mem_cons.1 hx with rfl | hx
     ·simpa using c2
     ·have := h1.1 x hx; simp; omega
    rw [e1,n2,e3]; rfl
def newK (A B : List Cp) (k : Nat) : List Cp := (bel B k).filter (isNew A)
def setK (A B : List Cp) (k : Nat) : List Cp := (bel B k).filter (isSet A)
theorem newK_le (A B : List Cp) (k : Nat) : (newK A B k).length ≤ B.length := Nat.le_trans (List.length_filter_le _ _) (List.length_filter_le _ _)
theorem setK_le (A B : List Cp) (k : Nat) : (setK A B k).length ≤ B.length := Nat.le_trans (List.length_filter_le _ _) (List.length_filter_le _ _)
theorem k_none {A B : List Cp} {k : Nat} (hB : B.Pairwise (fun x y => x.k < y.k)) (h : fst B k = none) : newK A B (k + 1) = newK A B k ∧ setK A B (k + 1) = setK A B k := by
 unfold newK setK
 rw [bel_succ k hB,h]
 simp
theorem k_new {A B : List Cp} {k : Nat} {y : Cp} (hB : B.Pairwise (fun x y => x.k < y.k)) (h : fst B k = some y) (ha : fst A k = none) : newK A B (k + 1) = newK A B k ++ [y] ∧ setK A B (k + 1) = setK A B k := by
 have hy := (fst_some h).2
 have e1 : isNew A y = true := by unfold isNew; rw [hy,fst_has ha]; rfl
 have e2 : isSet A y = false := by unfold isSet; rw [hy,ha]
 unfold newK setK
 rw [bel_succ k hB,h]
 simp [e1,e2]
theorem k_set {A B : List Cp} {k : Nat} {x y : Cp} (hB : B.Pairwise (fun x y => x.k < y.k)) (h : fst B k = some y) (ha : fst A k = some x) : newK A B (k + 1) = newK A B k ∧ setK A B (k + 1) = setK A B k ++ (if decide (x = y) = true then [] else [y]) := by
 have hy := (fst_some h).2
 have hk := mem_hasK (fst_some ha).1
 rw [(fst_some ha).2] at hk
 have e1 : isNew A y = false := by unfold isNew; rw [hy,hk]; rfl
 have e2 : isSet A y = !decide (x = y) := by unfold isSet; rw [hy,ha]
 unfold newK setK
 rw [bel_succ k hB,h]
 cases hd : decide (x = y) <;> simp [e1,e2,hd]
theorem lostN_lt (A B : List Cp) (k : Nat) : lostN A B k < 2 ^ k := by
 induction k with
 | zero => simp [lostN]
 | succ n ih =>
  rw [lostN,Nat.pow_succ]
  split <;> omega
theorem lost_yes {A B : List Cp} {k : Nat} {x : Cp} (ha : fst A k = some x) (hb : fst B k = none) : lostN A B (k + 1) = lostN A B k + 2 ^ k := by
 have hk := mem_hasK (fst_some ha).1
 rw [(fst_some ha).2] at hk
 rw [lostN,hk,fst_has hb]; simp
theorem lost_no {A B : List Cp} {k : Nat} (h : fst A k = none ∨ ∃ y,fst B k = some y) : lostN A B (k + 1) = lostN A B k := by
 rw [lostN]
 rcases h with h | ⟨y,h⟩
 ·rw [fst_has h]; simp
 ·have hk := mem_hasK (fst_some h).1
  rw [(fst_some h).2] at hk
  rw [hk]; simp
theorem chg1_k {i j : Nat} {A B : List Cp} (hB : ∀ q ∈ B,q.k < 6) : chg1 (i,A) (j,B) = ⟨j,lostN A B 6,newK A B 6,setK A B 6⟩ := by
 unfold chg1 newK setK lostm
 rw [bel_all hB]
theorem shl_u8 (k : Nat) (hk : k < 6) : IntKind.u8.wrap (1 * 2 ^ k) = ((2 ^ k : Nat) : Int) := by
 have h : k = 0 ∨ k = 1 ∨ k = 2 ∨ k = 3 ∨ k = 4 ∨ k = 5 := by omega
 rcases h with rfl | rfl | rfl | rfl | rfl | rfl <;> rfl
theorem rform_any (w : World) (ao : Option Addr) (n cap : Nat) (L : List EnE) (h : EntsAt w ao L) (hn : L.length = n) (hI : EIn L) (hz : esz L ≤ 1000000) :
  Calls Tryz.prog 31 #[.slice ao n cap] w fun e w' => e = .returned (.int .i64 ((fm 0 (evs L) : Nat) : Int)) ∧ Fr Nobody w w' := by
 have hm : n ≤ 1000000 := by unfold esz at hz; omega
 have HL : Hid (L.length = n ∧ EntsAt w ao L ∧ EIn L ∧ ∀ x ∈ L,x.C.length ≤ 1000000) := ⟨hn,h,hI,fun x hx => by have := csz_mem hx; unfold esz at hz; omega⟩
 clear hn h hI hz
 go_enter Tryz.func31,Tryz.ntmps31
 go_wp2
 go_loopw [11] (fun c wr => ∃ j : Nat,j ≤ n ∧ c = .int .i64 j ∧ fm (prvE (evs L) j) ((evs L).drop j) = fm 0 (evs L) ∧ Fr Nobody w wr) (fun c _ => n - (intOf c).toNat)
 case atStart => exact ⟨0,Nat.zero_le _,rfl,rfl,Fr.refl _ _⟩
 case round =>
  obtain ⟨j,hj,rfl,hI,hf⟩ := hrel
  have HI : Hid (fm (prvE (evs L) j) ((evs L).drop j) = fm 0 (evs L)) := hI
  have HF : Hid (Fr Nobody w wr) := hf
  clear hI hf
  by_cases hlt : j < n
  ·obtain ⟨x,hx⟩ : ∃ x,L[j]? = some x := ⟨_,List.getElem?_eq_getElem (by rw [HL.out.1]; exact hlt)⟩
   obtain ⟨g,o,hao,c0,c1,_⟩ := (HL.out.2.1.quiet HF.out).at hx
   have hmx := List.mem_of_getElem? hx
   obtain ⟨hid,hkk⟩ := HL.out.2.2.1 x hmx
   have hlt' : (j : Int) < (n : Int) := by omega
   have hX := evs_at hx
   have HFW : Hid (Fr Nobody w (wr.alloc (.cells #[.int .u32 (x.id : Int),.slice x.ao x.C.length x.cap] 60))) := HF.out.alloc _
   obtain ⟨p,hp⟩ : ∃ p,prvE (evs L) j = p := ⟨_,rfl⟩
   obtain ⟨ls,hls⟩ : ∃ l,lst (-1) x.C = l := ⟨_,rfl⟩
   obtain ⟨uu,huu⟩ : ∃ u,un x.C = u := ⟨_,rfl⟩
   have HCL : Hid (x.C.length = x.C.length ∧ Cs w x.ao x.C ∧ ∀ q ∈ x.C,q.k < 256) := ⟨rfl,HL.out.2.1.2 x hmx,hkk⟩
   have HUU : Hid (uu = un x.C) := huu.symm
   have hcb := HL.out.2.2.2 x hmx
   have HTL : Hid True := trivial
   have HLS : Hid (∀ W,Fr Nobody w W → Calls Tryz.prog 70 #[.slice x.ao x.C.length x.cap] W fun e w' => e = .returned (.int .i64 (ls : Int)) ∧ Fr Nobody W w') := fun W hW => by
    rw [← hls]; exact rlist_any W x.ao x.C.length x.cap x.C rfl ((HL.out.2.1.2 x hmx).quiet hW) hkk (HL.out.2.2.2 x hmx)
   have HB4 : Hid ((x.id / 1024 < 1 ∨ x.id ≤ p) → fm 0 (evs L) = 4) := fun hc => by
    have e := ent1_a (p := p) (x := (x.id,x.C)) hc
    rw [← hp] at e
    rw [fm_bad hX HI.out (by rw [e]; decide),e]
   have HBL : Hid (¬ (x.id / 1024 < 1 ∨ x.id ≤ p) → ls ≠ 0 → fm 0 (evs L) = ls) := fun hc h2 => by
    have e := ent1_b (p := p) (x := (x.id,x.C)) hc (by rw [hls]; exact h2)
    rw [← hp,hls] at e
    rw [fm_bad hX HI.out (by rw [e]; exact h2),e]
   have HBU : Hid (¬ (x.id / 1024 < 1 ∨ x.id ≤ p) → ls = 0 → uu = true → fm 0 (evs L) = 4) := fun hc h2 h3 => by
    have e := ent1_c (p := p) (x := (x.id,x.C)) hc (by rw [hls]; exact h2) (by rw [huu]; exact h3)
    rw [← hp] at e
    rw [fm_bad hX HI.out (by rw [e]; decide),e]
   have HON : Hid (¬ (x.id / 1024 < 1 ∨ x.id ≤ p) → ls = 0 → uu = false → fm (prvE (evs L) (j + 1)) ((evs L).drop (j + 1)) = fm 0 (evs L)) := fun hc h2 h3 => by
    have e := ent1_d (p := p) (x := (x.id,x.C)) hc (by rw [hls]; exact h2) (by rw [huu]; exact h3)
    rw [← hp] at e
    exact fm_on hX HI.out e
   have hl5 : ls < 4294967296 := by rw [← hls]; exact lst_small x.C
   obtain ⟨ge,hge⟩ : ∃ ge,x.id / 1024 = ge := ⟨_,rfl⟩
   have hge2 : (ge : Int) ≤ 4194303 := by omega
   have HG : Hid (∀ W,Calls Tryz.prog 69 #[.int .u32 (x.id : Int)] W fun e w' => e = .returned (.int .i64 (ge : Int)) ∧ w' = W) := fun W => by rw [← hge]; exact rgen_e x.id W hid
   have b0 : ∀ f : FrOf (wr.alloc (.cells #[.int .u32 (x.id : Int),.slice x.ao x.C.length x.cap] 60)),f.val.cell? ⟨wr.heap.size,0,none⟩ = some (.int .u32 (x.id : Int)) := fun f => (((Own.start wr).allocC _ _).quiet f.fr).cell 0
   have b1 : ∀ f : FrOf (wr.alloc (.cells #[.int .u32 (x.id : Int),.slice x.ao x.C.length x.cap] 60)),f.val.cell? ⟨wr.heap.size,1,none⟩ = some (.slice x.ao x.C.length x.cap) := fun f => (((Own.start wr).allocC _ _).quiet f.fr).cell 1
   by_cases hid1 : 1 ≤ ge
   ·have hg1 : ¬ (ge : Int) < 1 := by omega
    have hg3 : ¬ (4194303 : Int) < (ge : Int) := by omega
    rcases j with _ | i
    ·have hp0 : p = 0 := by rw [← hp]; rfl
     have HC : Hid (¬ (x.id / 1024 < 1 ∨ x.id ≤ p)) := by show ¬ _; omega
     simp only [Nat.zero_mul,Nat.add_zero] at c0 c1
     have hlt0 : (0 : Int) < (n : Int) := by omega
     subst hao
     clear hx hmx hkk hls huu hp hX hid1 hp0 hid HI hge
     obtain ⟨xi,xa,xc,C⟩ := x
     simp only at c0 c1 HLS HB4 HBL HBU HON HC HFW HG HCL HUU hcb b0 b1
     generalize hclE : C.length = cl at *
     have HCE : Hid (C.length = cl) := hclE
     clear hclE
     have q0 := b0 ⟨_,Fr.refl _ _⟩
     simp only at q0
     go_wp2_with fail
     refine (HG.out _).mono ?_
     rintro e w5 ⟨rfl,hw5⟩
     subst hw5
     clear q0 c0 c1
     go_wp2
     generalize hWg : wr.alloc (.cells #[.int .u32 (xi : Int),.slice xa cl xc] 60) = W1 at *
     generalize wr.heap.size = b at *
     clear hWg
     refine wp_region_fr (by kernel_rfl) (by kernel_rfl) ?_
     repeat (with_reducible refine wpQuiet_step (fun K hK => ?_)
             go_simp
             (refine hK _ ?_; clear hK K))
     refine wpQuiet_nil ?_
     rintro w' ⟨f,rfl⟩
     have HF2 : Hid (Fr Nobody w f.val) := HFW.out.trans f.fr
     have HB2 : Hid (∀ w',Fr Nobody f.val w' → w'.cell? ⟨b,1,none⟩ = some (.slice xa cl xc)) := fun w' hf => b1 ⟨w',f.fr.trans hf⟩
     have e1 := b1 f
     generalize f.val = W2 at *
     clear b0 b1
     go_wp2_with fail
     refine (HLS.out _ HF2.out).mono ?_
     rintro e W3 ⟨rfl,hf3⟩
     have HF3 : Hid (Fr Nobody w W3) := HF2.out.trans hf3
     have e3 := HB2.out W3 hf3
     clear hf3 e1 HB2 HF2 HLS
     by_cases hl0 : ls = 0
     ·subst hl0
      go_wp2
      go_loopw [49] (fun c2 wr2 => ∃ i2 : Nat,i2 ≤ cl ∧ c2 = .int .i64 i2 ∧ un (C.take i2) = false ∧ Fr Nobody w wr2) (fun c2 _ => cl - (intOf c2).toNat)
      case atStart => exact ⟨0,Nat.zero_le _,rfl,by simp [un],HF3.out⟩
      case round =>
       obtain ⟨i2,hi2,rfl,hu2,hf4⟩ := hrel
       have HU2 : Hid (un (C.take i2) = false) := hu2
       have HF4 : Hid (Fr Nobody w _) := hf4
       clear hu2 hf4
       by_cases hlt2 : i2 < cl
       ·obtain ⟨q,hq⟩ : ∃ q,C[i2]? = some q := ⟨_,List.getElem?_eq_getElem (by rw [HCE.out]; exact hlt2)⟩
        obtain ⟨gg,oo,hga,_,y0,y1,y2,y3⟩ := ((HCL.out.2.1).quiet HF4.out).at i2 q hq
        subst hga
        have hq8 := HCL.out.2.2 q (List.mem_of_getElem? hq)
        have hlt2' : (i2 : Int) < (cl : Int) := by omega
        have HT : Hid (∀ W,Calls Tryz.prog 71 #[.int .u8 (q.k : Int)] W fun e w' => e = .returned (.bool (ktold q.k)) ∧ Fr Nobody W w') := fun W => rtold_any W q.k hq8
        have HU3 : Hid (ktold q.k = false → un C = true) := fun e => un_mem (List.mem_of_getElem? hq) e
        have HU4 : Hid (ktold q.k = true → un (C.take (i2 + 1)) = false) := fun e => by rw [take_snoc C i2 q hq,un_snoc,HU2.out,e]; rfl
        have HF5 : Hid (Fr Nobody w (_)) := HF4.out.alloc (.cells #[.int .u8 (q.k : Int),.int .i32 q.a,.int .i32 q.b,.int .i32 q.c] 63)
        clear hq
        generalize ktold q.k = r at *
        obtain ⟨qk,qa,qb,qc⟩ := q
        simp only at y0 y1 y2 y3 HT HF5
        go_wp2_with fail
        refine (HT.out _).mono ?_
        rintro e W6 ⟨rfl,hf6⟩
        have HF6 : Hid (Fr Nobody w W6) := HF5.out.trans hf6
        clear hf6 HT y0 y1 y2 y3
        cases r
        ·have HN : Hid (fm 0 (evs L) = 4) := HBU.out HC.out (by trivial) (by rw [HUU.out]; exact HU3.out rfl)
         clear HON HBL HBU HB4
         go_wp2
         go_ret
         exact ⟨by rw [HN.out]; rfl,HF6.out⟩
        ·have HU : Hid (un (C.take (i2 + 1)) = false) := HU4.out rfl
         go_wp2
         go_roundw
         case rel => exact ⟨i2 + 1,by omega,by go_num,HU.out,HF6.out⟩
         case measure => simp [intOf]; omega
       ·have hlt2' : ¬ (i2 : Int) < (cl : Int) := by omega
        have HU : Hid (uu = false) := by have := HU2.out; rw [List.take_of_length_le (by rw [HCE.out]; omega)] at this; rw [HUU.out]; exact this
        have HN : Hid (fm (prvE (evs L) (0 + 1)) ((evs L).drop (0 + 1)) = fm 0 (evs L)) := HON.out HC.out (by trivial) HU.out
        clear HON HBL HBU HB4
        go_wp2
        go_roundw
        case rel => exact ⟨0 + 1,by omega,by go_num,HN.out,HF4.out⟩
        case measure => simp [intOf]; omega
     ·have HN : Hid (fm 0 (evs L) = ls) := HBL.out HC.out hl0
      have hl1 : ((ls : Int) != 0) = true := by simpa using hl0
      clear HON HBL HBU HB4
      go_wp2
      go_ret
      exact ⟨by rw [HN.out]; rfl,HF3.out⟩
    ·obtain ⟨y,hy⟩ : ∃ y,L[i]? = some y := ⟨_,List.getElem?_eq_getElem (by rw [HL.out.1]; omega)⟩
     have hpy : p = y.id := by rw [← hp]; simp [prvE,evs_at hy]
     have d0 : ∀ f : FrOf (wr.alloc (.cells #[.int .u32 (x.id : Int),.slice x.ao x.C.length x.cap] 60)),f.val.cell? ⟨g,o + i * 2,none⟩ = some (.int .u32 (p : Int)) := fun f => by
      obtain ⟨g',o',hg',h0,_,_⟩ := (HL.out.2.1.quiet (HFW.out.trans f.fr)).at hy
      rw [hao] at hg'
      cases hg'
      rw [hpy]; exact h0
     have hyid := (HL.out.2.2.1 y (List.mem_of_getElem? hy)).1
     rw [← hpy] at hyid
     have hwi : IntKind.i64.wrap (i : Int) = (i : Int) := by rw [IntKind.wrap_i64]; omega
     have hin : (i : Int) < (n : Int) := by omega
     subst hao
     by_cases hle : x.id ≤ p
     ·have HC : Hid (x.id / 1024 < 1 ∨ x.id ≤ p) := .inr hle
      have hle' : (x.id : Int) ≤ (p : Int) := by omega
      clear hx hmx hkk hls huu hp hX hid1 hid HI hy hpy hle hge
      obtain ⟨xi,xa,xc,C⟩ := x
      simp only at c0 c1 HLS HB4 HBL HBU HON HC HFW HG HCL HUU hcb b0 b1 hle' d0
      generalize hclE : C.length = cl at *
      have HCE : Hid (C.length = cl) := hclE
      clear hclE
      have q0 := b0 ⟨_,Fr.refl _ _⟩
      simp only at q0
      go_wp2_with fail
      refine (HG.out _).mono ?_
      rintro e w5 ⟨rfl,hw5⟩
      subst hw5
      clear q0 c0 c1
      go_wp2
      generalize hWg : wr.alloc (.cells #[.int .u32 (xi : Int),.slice xa cl xc] 60) = W1 at *
      generalize wr.heap.size = b at *
      clear hWg
      refine wp_region_fr (by kernel_rfl) (by kernel_rfl) ?_
      repeat (with_reducible refine wpQuiet_step (fun K hK => ?_)
              go_simp
              (refine hK _ ?_; clear hK K))
      refine wpQuiet_nil ?_
      rintro w' ⟨f,rfl⟩
      have HF2 : Hid (Fr Nobody w f.val) := HFW.out.trans f.fr
      have HB2 : Hid (∀ w',Fr Nobody f.val w' → w'.cell? ⟨b,1,none⟩ = some (.slice xa cl xc)) := fun w' hf => b1 ⟨w',f.fr.trans hf⟩
      have e1 := b1 f
      generalize f.val = W2 at *
      clear b0 b1
      have HN : Hid (fm 0 (evs L) = 4) := HB4.out HC.out
      clear HON HBL HBU HB4 HLS HTL
      go_wp2
      go_ret
      exact ⟨by rw [HN.out]; rfl,HF2.out⟩
     ·have HC : Hid (¬ (x.id / 1024 < 1 ∨ x.id ≤ p)) := by show ¬ _; omega
      have hle' : ¬ (x.id : Int) ≤ (p : Int) := by omega
      clear hx hmx hkk hls huu hp hX hid1 hid HI hy hpy hle hge
      obtain ⟨xi,xa,xc,C⟩ := x
      simp only at c0 c1 HLS HB4 HBL HBU HON HC HFW HG HCL HUU hcb b0 b1 hle' d0
      generalize hclE : C.length = cl at *
      have HCE : Hid (C.length = cl) := hclE
      clear hclE
      have q0 := b0 ⟨_,Fr.refl _ _⟩
      simp only at q0
      go_wp2_with fail
      refine (HG.out _).mono ?_
      rintro e w5 ⟨rfl,hw5⟩
      subst hw5
      clear q0 c0 c1
      go_wp2
      generalize hWg : wr.alloc (.cells #[.int .u32 (xi : Int),.slice xa cl xc] 60) = W1 at *
      generalize wr.heap.size = b at *
      clear hWg
      refine wp_region_fr (by kernel_rfl) (by kernel_rfl) ?_
      repeat (with_reducible refine wpQuiet_step (fun K hK => ?_)
              go_simp
              (refine hK _ ?_; clear hK K))
      refine wpQuiet_nil ?_
      rintro w' ⟨f,rfl⟩
      have HF2 : Hid (Fr Nobody w f.val) := HFW.out.trans f.fr
      have HB2 : Hid (∀ w',Fr Nobody f.val w' → w'.cell? ⟨b,1,none⟩ = some (.slice xa cl xc)) := fun w' hf => b1 ⟨w',f.fr.trans hf⟩
      have e1 := b1 f
      generalize f.val = W2 at *
      clear b0 b1
      go_wp2_with fail
      refine (HLS.out _ HF2.out).mono ?_
      rintro e W3 ⟨rfl,hf3⟩
      have HF3 : Hid (Fr Nobody w W3) := HF2.out.trans hf3
      have e3 := HB2.out W3 hf3
      clear hf3 e1 HB2 HF2 HLS
      by_cases hl0 : ls = 0
      ·subst hl0
       go_wp2
       go_loopw [49] (fun c2 wr2 => ∃ i2 : Nat,i2 ≤ cl ∧ c2 = .int .i64 i2 ∧ un (C.take i2) = false ∧ Fr Nobody w wr2) (fun c2 _ => cl - (intOf c2).toNat)
       case atStart => exact ⟨0,Nat.zero_le _,rfl,by simp [un],HF3.out⟩
       case round =>
        obtain ⟨i2,hi2,rfl,hu2,hf4⟩ := hrel
        have HU2 : Hid (un (C.take i2) = false) := hu2
        have HF4 : Hid (Fr Nobody w _) := hf4
        clear hu2 hf4
        by_cases hlt2 : i2 < cl
        ·obtain ⟨q,hq⟩ : ∃ q,C[i2]? = some q := ⟨_,List.getElem?_eq_getElem (by rw [HCE.out]; exact hlt2)⟩
         obtain ⟨gg,oo,hga,_,y0,y1,y2,y3⟩ := ((HCL.out.2.1).quiet HF4.out).at i2 q hq
         subst hga
         have hq8 := HCL.out.2.2 q (List.mem_of_getElem? hq)
         have hlt2' : (i2 : Int) < (cl : Int) := by omega
         have HT : Hid (∀ W,Calls Tryz.prog 71 #[.int .u8 (q.k : Int)] W fun e w' => e = .returned (.bool (ktold q.k)) ∧ Fr Nobody W w') := fun W => rtold_any W q.k hq8
         have HU3 : Hid (ktold q.k = false → un C = true) := fun e => un_mem (List.mem_of_getElem? hq) e
         have HU4 : Hid (ktold q.k = true → un (C.take (i2 + 1)) = false) := fun e => by rw [take_snoc C i2 q hq,un_snoc,HU2.out,e]; rfl
         have HF5 : Hid (Fr Nobody w (_)) := HF4.out.alloc (.cells #[.int .u8 (q.k : Int),.int .i32 q.a,.int .i32 q.b,.int .i32 q.c] 63)
         clear hq
         generalize ktold q.k = r at *
         obtain ⟨qk,qa,qb,qc⟩ := q
         simp only at y0 y1 y2 y3 HT HF5
         go_wp2_with fail
         refine (HT.out _).mono ?_
         rintro e W6 ⟨rfl,hf6⟩
         have HF6 : Hid (Fr Nobody w W6) := HF5.out.trans hf6
         clear hf6 HT y0 y1 y2 y3
         cases r
         ·have HN : Hid (fm 0 (evs L) = 4) := HBU.out HC.out (by trivial) (by rw [HUU.out]; exact HU3.out rfl)
          clear HON HBL HBU HB4
          go_wp2
          go_ret
          exact ⟨by rw [HN.out]; rfl,HF6.out⟩
         ·have HU : Hid (un (C.take (i2 + 1)) = false) := HU4.out rfl
          go_wp2
          go_roundw
          case rel => exact ⟨i2 + 1,by omega,by go_num,HU.out,HF6.out⟩
          case measure => simp [intOf]; omega
        ·have hlt2' : ¬ (i2 : Int) < (cl : Int) := by omega
         have HU : Hid (uu = false) := by have := HU2.out; rw [List.take_of_length_le (by rw [HCE.out]; omega)] at this; rw [HUU.out]; exact this
         have HN : Hid (fm (prvE (evs L) ((i + 1) + 1)) ((evs L).drop ((i + 1) + 1)) = fm 0 (evs L)) := HON.out HC.out (by trivial) HU.out
         clear HON HBL HBU HB4
         go_wp2
         go_roundw
         case rel => exact ⟨(i + 1) + 1,by omega,by go_num,HN.out,HF4.out⟩
         case measure => simp [intOf]; omega
      ·have HN : Hid (fm 0 (evs L) = ls) := HBL.out HC.out hl0
       have hl1 : ((ls : Int) != 0) = true := by simpa using hl0
       clear HON HBL HBU HB4
       go_wp2
       go_ret
       exact ⟨by rw [HN.out]; rfl,HF3.out⟩
   ·have HC : Hid (x.id / 1024 < 1 ∨ x.id ≤ p) := .inl (by omega)
    have hg1 : (ge : Int) < 1 := by omega
    subst hao
    clear hx hmx hkk hls huu hp hX hid1 hid HI hge
    obtain ⟨xi,xa,xc,C⟩ := x
    simp only at c0 c1 HLS HB4 HBL HBU HON HC HFW HG HCL HUU hcb b0 b1
    generalize hclE : C.length = cl at *
    have HCE : Hid (C.length = cl) := hclE
    clear hclE
    have q0 := b0 ⟨_,Fr.refl _ _⟩
    simp only at q0
    go_wp2_with fail
    refine (HG.out _).mono ?_
    rintro e w5 ⟨rfl,hw5⟩
    subst hw5
    clear q0 c0 c1
    go_wp2
    generalize hWg : wr.alloc (.cells #[.int .u32 (xi : Int),.slice xa cl xc] 60) = W1 at *
    generalize wr.heap.size = b at *
    clear hWg
    refine wp_region_fr (by kernel_rfl) (by kernel_rfl) ?_
    repeat (with_reducible refine wpQuiet_step (fun K hK => ?_)
            go_simp
            (refine hK _ ?_; clear hK K))
    refine wpQuiet_nil ?_
    rintro w' ⟨f,rfl⟩
    have HF2 : Hid (Fr Nobody w f.val) := HFW.out.trans f.fr
    have HB2 : Hid (∀ w',Fr Nobody f.val w' → w'.cell? ⟨b,1,none⟩ = some (.slice xa cl xc)) := fun w' hf => b1 ⟨w',f.fr.trans hf⟩
    have e1 := b1 f
    generalize f.val = W2 at *
    clear b0 b1
    have HN : Hid (fm 0 (evs L) = 4) := HB4.out HC.out
    clear HON HBL HBU HB4 HLS HTL
    go_wp2
    go_ret
    exact ⟨by rw [HN.out]; rfl,HF2.out⟩
  ·have hlt' : ¬ (j : Int) < (n : Int) := by omega
   have HN : Hid (fm 0 (evs L) = 0) := fm_end HI.out (by rw [evs_len,HL.out.1]; omega)
   go_wp2
   go_ret
   exact ⟨by rw [HN.out]; rfl,HF.out⟩
end Go.Proofs.YtgifeckbflkkpaaGreatDoor
