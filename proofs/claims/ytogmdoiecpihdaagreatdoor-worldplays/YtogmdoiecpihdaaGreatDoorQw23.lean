/- The document's store: turn, Add, Remove. -/
import Derived.Test.YtogmdoiecpihdaaGreatDoorQw22
import Derived.Test.YtogmdoiecpihdaaGreatDoorQw04
import Derived.Shelf.SlSortCmp.WholeK
namespace Go.Proofs.YtogmdoiecpihdaaGreatDoor
open Go.RowKit Go.Maps
set_option linter.unusedVariables false
set_option maxHeartbeats 4000000
set_option maxRecDepth 100000
section
variable (w0 w : World) (l : List Thing) (b : Nat) (σ : Sto) (K : Nat)
theorem rturn (h : Own w0 w (RSto b σ K :: l)) (hσ : σ.Ok) (id : Nat) (hid : id < 4294967296) (hl : σ.S.isLive id = true) (ao : Option Addr) (len cap : Nat) (C : List Cp) (hCl : C.length = len) (hCs : ∀ w',Own w0 w' l → Cs w' ao C) (h0 : lst (-1) C = 0) (hlen : len ≤ 1000000) (hK : K < 1000000) :
  Calls Tryz.prog 212 #[.pointer (some ⟨b,0,none⟩),.int .u32 (id : Int),.slice ao len cap] w fun e w' => e = .returned (.tuple #[]) ∧ Own w0 w' (RSto b (σ.turn id C) (K + 1) :: l) := by
 obtain ⟨r,D,hr,he,_,_,h6⟩ := hσ.ent hl
 have HV : Hid (σ.turn id C = (σ.out (σ.hom id) r).put id C) := by show _ = _; unfold Sto.turn; rw [hr]; rfl
 have HFD : Hid (Calls _ _ _ _ _) := rfindS w0 w l b σ K h hσ (by omega) id hl
 have HDR : Hid (∀ w',Own w0 w' (RSto b σ K :: l) → Calls Tryz.prog 169 #[.pointer (some ⟨b,1 + σ.hom id * 2,none⟩),.int .u32 (id : Int)] w' fun out w'' => ∃ ao cap,out = .returned (.tuple #[.slice ao D.length cap,.int .i64 0]) ∧ Own w0 w'' (RSto b (σ.out (σ.hom id) r) K :: l)) := fun w' h'' => rdrop w0 w' l b σ K h'' hσ (by omega) id hl r D hr he
 have hL := hσ.out hl hr
 have hCk : ∀ q ∈ C,q.k < 256 := fun q hq => by have := chk_k ((lst_ok h0).2 q hq).2; omega
 have HPU : Hid (∀ w',Own w0 w' (RSto b (σ.out (σ.hom id) r) K :: l) → Calls Tryz.prog 172 #[.pointer (some ⟨b,0,none⟩),.int .u32 (id : Int),.slice ao len cap] w' fun e w'' => e = .returned (.tuple #[]) ∧ Own w0 w'' (RSto b ((σ.out (σ.hom id) r).put id C) (K + 1) :: l)) := fun w' h' => rputS w0 w' l b _ K h' id hid ao len cap C hCl hCs hCk hlen h0 (hL.t _ (msk64 C)) (hL.none (msk64 C)) hK
 have H : Hid (Own w0 w _) := h
 clear h hσ hl hr he h6 hL hCk hCs
 generalize σ.hom id = m at *
 generalize D.length = dl at *
 go_enter Tryz.func212,Tryz.ntmps212
 go_wp2_with fail
 refine HFD.out.mono ?_
 rintro e w1 ⟨rfl,hf⟩
 have H1 : Hid (Own w0 w1 _) := H.out.quiet hf
 clear hf HFD H
 go_wp2_with fail
 refine (HDR.out _ H1.out).mono ?_
 rintro e w2 ⟨a2,c2,rfl,hO⟩
 have H2 : Hid (Own w0 w2 _) := hO
 clear hO H1 HDR
 go_wp2_with fail
 refine (HPU.out _ H2.out).mono ?_
 rintro e w3 ⟨rfl,hO⟩
 have H3 : Hid (Own w0 w3 _) := hO
 clear hO
 go_wp2
 go_end0
 rw [HV.out]
 exact ⟨rfl,H3.out⟩
theorem raddS (h : Own w0 w (RSto b σ K :: l)) (hσ : σ.Ok) (id : Nat) (hid : id < 4294967296) (q : Cp) (hk : q.k < 256) (hK : K < 1000000) :
  Calls Tryz.prog 165 #[.pointer (some ⟨b,0,none⟩),.int .u32 (id : Int),q.ag] w fun e w' => e = .returned (.int .i64 (σ.add id q).1) ∧ Own w0 w' (RSto b (σ.add id q).2 (K + 1) :: l) := by
 have hA := h.allocC #[.int .u8 (q.k : Int),.int .i32 q.a,.int .i32 q.b,.int .i32 q.c] 46
 have z0 := hA.cell 0
 have z1 := hA.cell 1
 have z2 := hA.cell 2
 have z3 := hA.cell 3
 simp at z0 z1 z2 z3
 have HC : Hid (Calls _ _ _ _ _) := rcheck3 (w.alloc (.cells #[.int .u8 (q.k : Int),.int .i32 q.a,.int .i32 q.b,.int .i32 q.c] 46)) q.k hk q.a q.b q.c
 have HA : Hid (Own w0 _ (Cells w.heap.size #[.int .u8 (q.k : Int),.int .i32 q.a,.int .i32 q.b,.int .i32 q.c] 46 :: RSto b σ K :: l)) := hA
 have HQ : Hid (q.chk = chk q.k (f3 q.a q.b q.c)) := rfl
 clear h hA
 unfold Cp.ag
 obtain ⟨x,hx⟩ : ∃ x,q.chk = x := ⟨_,rfl⟩
 rw [← HQ.out,hx] at HC
 by_cases hx0 : x = 0
 ·subst hx0
  cases hl : σ.S.isLive id with
  | false =>
   have HV : Hid (σ.add id q = (7,σ)) := by show _ = _; unfold Sto.add; rw [if_neg (by simp [hx]),if_pos hl]
   have HE : Hid (∀ w' l',Own w0 w' (RSto b σ K :: l') → Calls Tryz.prog 108 #[.pointer (some ⟨b,0,none⟩),.int .u32 (id : Int)] w' fun e w'' => e = .returned (.tuple #[.agg #[.int .u32 0,.slice none 0 0],.int .i64 7]) ∧ Own w0 w'' (RSto b σ K :: l')) := by
    intro w' l' h'
    obtain ⟨x,hx',h'⟩ := RSto.opn h'
    refine (rentNo w0 w' l' b σ x K h' hx' hσ (by omega) id hl).mono ?_
    rintro e w'' ⟨rfl,h2⟩
    exact ⟨rfl,RSto.mk hx' h2⟩
   clear hx HQ hσ hl
   obtain ⟨qk,qa,qb,qc⟩ := q
   simp only at z0 z1 z2 z3 HC HA hk ⊢
   go_enter Tryz.func165,Tryz.ntmps165
   go_wp2_with fail
   refine HC.out.mono ?_
   rintro e w1 ⟨rfl,hf⟩
   have H1 : Hid (Own w0 w1 _) := HA.out.quiet hf
   clear hf HC z0 z1 z2 z3
   go_wp2_with fail
   refine (HE.out _ _ H1.out.two).mono ?_
   rintro e w2 ⟨rfl,hO2⟩
   have H2 : Hid (Own w0 w2 _) := hO2
   clear hO2 H1 HE
   go_wp2
   go_ret
   rw [HV.out]
   exact ⟨rfl,((H2.out.two.tail).alloc _).rstoK (Nat.le_succ K)⟩
  | true =>
   obtain ⟨r,C,hr,he,hlC,_,h6⟩ := hσ.ent hl
   have hcps := Sto.cps_of hr he
   have hC6 : C.length ≤ 6 := (hσ.t _ h6).c6 he
   have hCk : ∀ q ∈ C,q.k < 256 := fun q hq => by have := chk_k ((lst_ok hlC).2 q hq).2; omega
   have HE : Hid (∀ w' l',Own w0 w' (RSto b σ K :: l') → Calls Tryz.prog 108 #[.pointer (some ⟨b,0,none⟩),.int .u32 (id : Int)] w' fun e w'' => ∃ y ae ce,RXok σ y K ∧ (∀ w3 l3,Own w0 w3 (RSX b σ.S y :: l3) → Cs w3 ae C) ∧ e = .returned (.tuple #[.agg #[.int .u32 (id : Int),.slice ae C.length ce],.int .i64 0]) ∧ Own w0 w'' (RSX b σ.S y :: l')) := by
    intro w' l' h'
    obtain ⟨y,hy,h'⟩ := RSto.opn h'
    obtain ⟨r',d,hr',hd,hdi,he'⟩ := hy.row hσ hl
    have hrr : r' = r := Option.some.inj (hr'.symm.trans hr)
    subst hrr
    have hCC : d.2.1 = C := by rw [he] at he'; exact (Prod.mk.inj (Option.some.inj he')).2.symm
    refine (rent w0 w' l' b σ y K h' hy hσ (by omega) id hl r' hr d hd).mono ?_
    rintro e w'' ⟨rfl,h2⟩
    refine ⟨y,d.2.2.1,d.2.2.2,hy,fun w3 l3 h3 => ?_,by rw [hdi,hCC],h2⟩
    obtain ⟨_,_,_,_,_,_,hc⟩ := RSX.ent w0 w3 l3 b σ y h3 _ r' h6 d hd
    rw [hCC] at hc
    exact hc
   cases hh : hasK C q.k with
   | true =>
    have HV : Hid (σ.add id q = (9,σ)) := by show _ = _; unfold Sto.add; rw [if_neg (by simp [hx]),if_neg (by simp [hl]),hcps,if_pos hh]
    have HHK : Hid (hasK C q.k = true) := hh
    clear hx HQ hσ hl hr he hlC h6 hcps hh
    obtain ⟨qk,qa,qb,qc⟩ := q
    simp only at z0 z1 z2 z3 HC HA hk HHK ⊢
    generalize hcl : C.length = cl at *
    go_enter Tryz.func165,Tryz.ntmps165
    go_wp2_with fail
    refine HC.out.mono ?_
    rintro e w1 ⟨rfl,hf⟩
    have H1 : Hid (Own w0 w1 _) := HA.out.quiet hf
    clear hf HC z0 z1 z2 z3
    go_wp2_with fail
    refine (HE.out _ _ H1.out.two).mono ?_
    rintro e w2 ⟨y,ae,ce,hy,hcs,rfl,hO2⟩
    have hO3 := hO2.allocC #[.int .u32 (id : Int),.slice ae cl ce] 76
    have e1 := hO3.cell 1
    have f0 := hO3.three.cell 0
    simp at e1 f0
    have HFN : Hid (Calls _ _ _ _ _) := find_any _ ae cl ce C hcl (hcs _ _ hO3.two) hCk (by omega) qk hk
    have HY : Hid (RXok σ y K) := hy
    have H3 : Hid (Own w0 _ _) := hO3
    have hne1 : w2.heap.size ≠ w.heap.size := by have := hO2.two.lt; omega
    have hne2 : w.heap.size ≠ w2.heap.size := fun q => hne1 q.symm
    clear hO2 hO3 hcs hy H1 HE
    go_wp2_with fail
    refine HFN.out.mono ?_
    rintro e w4 ⟨r2,rfl,hf2,hcase⟩
    have H4 : Hid (Own w0 w4 _) := H3.out.quiet hf2
    clear hf2 HFN H3 e1 f0
    rcases hcase with ⟨rfl,hno⟩ | ⟨i,rfl,q,hq,hqk,_⟩
    ·rw [HHK.out] at hno; cases hno
    ·have hi0 : (0 : Int) ≤ (i : Int) := by omega
     clear hq hqk
     go_wp2
     go_ret
     rw [HV.out]
     exact ⟨rfl,(RSto.mk HY.out H4.out.tail.two.tail).rstoK (Nat.le_succ K)⟩
   | false =>
    have hins := insc_insw hh
    have hl2 := insw_ok hlC hx hh
    have hln := insw_len C q
    have HV : Hid (σ.add id q = (0,σ.turn id (insw C q))) := by show _ = _; unfold Sto.add; rw [if_neg (by simp [hx]),if_neg (by simp [hl]),hcps,if_neg (by simp [hh])]
    have HTU : Hid (∀ w' l' ao cap,Own w0 w' (RSto b σ K :: Row 46 4 (.slice ao (C.length + 1) cap) (C.length + 1) (ccat (insw C q)) :: l') → Calls Tryz.prog 212 #[.pointer (some ⟨b,0,none⟩),.int .u32 (id : Int),.slice ao (C.length + 1) cap] w' fun e w'' => e = .returned (.tuple #[]) ∧ Own w0 w'' (RSto b (σ.turn id (insw C q)) (K + 1) :: Row 46 4 (.slice ao (C.length + 1) cap) (C.length + 1) (ccat (insw C q)) :: l')) := fun w' l' ao cap h' => rturn w0 w' _ b σ K h' hσ id hid hl ao _ cap (insw C q) hln (fun w'' h'' => Own.rcs h'' hln) hl2 (by omega) hK
    have HWI : Hid (∀ w' l' ae ce,Own w0 w' l' → (∀ w3,Own w0 w3 l' → Cs w3 ae C) → Calls Tryz.prog 213 #[.slice ae C.length ce,q.ag] w' fun e w'' => ∃ ao cap,e = .returned (.slice ao (C.length + 1) cap) ∧ Own w0 w'' (Row 46 4 (.slice ao (C.length + 1) cap) (C.length + 1) (ccat (insw C q)) :: l')) := by
     intro w' l' ae ce h' hc
     have := rwith_any w0 w' l' h' ae C.length ce C rfl hc hCk (by omega) q hk
     rw [hins,hln] at this
     exact this
    have HHK : Hid (hasK C q.k = false) := hh
    clear hx HQ hσ hl hr he hlC h6 hcps hh hins hl2 hln
    generalize insw C q = I at *
    obtain ⟨qk,qa,qb,qc⟩ := q
    simp only [Cp.ag] at z0 z1 z2 z3 HC HA hk HHK HWI ⊢
    generalize hcl : C.length = cl at *
    go_enter Tryz.func165,Tryz.ntmps165
    go_wp2_with fail
    refine HC.out.mono ?_
    rintro e w1 ⟨rfl,hf⟩
    have H1 : Hid (Own w0 w1 _) := HA.out.quiet hf
    clear hf HC z0 z1 z2 z3
    go_wp2_with fail
    refine (HE.out _ _ H1.out.two).mono ?_
    rintro e w2 ⟨y,ae,ce,hy,hcs,rfl,hO2⟩
    have hO3 := hO2.allocC #[.int .u32 (id : Int),.slice ae cl ce] 76
    have e1 := hO3.cell 1
    have f0 := hO3.three.cell 0
    simp at e1 f0
    have HFN : Hid (Calls _ _ _ _ _) := find_any _ ae cl ce C hcl (hcs _ _ hO3.two) hCk (by omega) qk hk
    have HY : Hid (RXok σ y K) := hy
    have HCY : Hid (∀ w3 l3,Own w0 w3 (RSX b σ.S y :: l3) → Cs w3 ae C) := hcs
    have H3 : Hid (Own w0 _ _) := hO3
    have hne1 : w2.heap.size ≠ w.heap.size := by have := hO2.two.lt; omega
    have hne2 : w.heap.size ≠ w2.heap.size := fun q => hne1 q.symm
    clear hO2 hO3 hcs hy H1 HE
    go_wp2_with fail
    refine HFN.out.mono ?_
    rintro e w4 ⟨r2,rfl,hf2,hcase⟩
    have hO4 := H3.out.quiet hf2
    have e1 := hO4.cell 1
    have f0 := hO4.three.cell 0
    have f1 := hO4.three.cell 1
    have f2 := hO4.three.cell 2
    have f3 := hO4.three.cell 3
    simp at e1 f0 f1 f2 f3
    have HWI4 : Hid (Calls _ _ _ _ _) := HWI.out w4 _ ae ce hO4 (fun w3 h3 => HCY.out _ _ h3.two)
    clear hf2 HFN H3 hO4
    rcases hcase with ⟨rfl,hno⟩ | ⟨i,rfl,q,hq,hqk,hyes⟩
    ·clear hno
     go_wp2_with fail
     refine HWI4.out.mono ?_
     rintro e w5 ⟨a5,c5,rfl,hO5⟩
     have H5 : Hid (Own w0 w5 (RSto b σ K :: Row 46 4 (.slice a5 (cl + 1) c5) (cl + 1) (ccat I) :: Cells w2.heap.size #[.int .u32 (id : Int),.slice ae cl ce] 76 :: Cells w.heap.size #[.int .u8 (qk : Int),.int .i32 qa,.int .i32 qb,.int .i32 qc] 46 :: l)) := by
      exact RSto.mk HY.out hO5.three
     clear hO5 HWI4 e1 f0 f1 f2 f3
     go_wp2_with fail
     refine (HTU.out _ _ _ _ H5.out).mono ?_
     rintro e w6 ⟨rfl,hO6⟩
     have H6 : Hid (Own w0 w6 _) := hO6
     clear hO6
     go_wp2
     go_ret
     rw [HV.out]
     exact ⟨rfl,(H6.out.two.tail.two.tail).two.tail⟩
    ·rw [HHK.out] at hyes; cases hyes
 ·have HV : Hid (σ.add id q = ((x : Int),σ)) := by show _ = _; unfold Sto.add; rw [if_pos (by rw [hx]; exact hx0),hx]
  have hx1 : ((x : Int) != 0) = true := by simpa using hx0
  clear hx HQ hσ
  obtain ⟨qk,qa,qb,qc⟩ := q
  simp only at z0 z1 z2 z3 HC HA hk ⊢
  go_enter Tryz.func165,Tryz.ntmps165
  go_wp2_with fail
  refine HC.out.mono ?_
  rintro e w1 ⟨rfl,hf⟩
  have H1 : Hid (Own w0 w1 _) := HA.out.quiet hf
  clear hf HC z0 z1 z2 z3
  go_wp2
  go_ret
  rw [HV.out]
  exact ⟨rfl,(H1.out.tail).rstoK (Nat.le_succ K)⟩
end
section
variable (w0 w : World) (l : List Thing) (b : Nat) (σ : Sto) (K : Nat)
theorem rremoveS (h : Own w0 w (RSto b σ K :: l)) (hσ : σ.Ok) (id : Nat) (hid : id < 4294967296) (k : Nat) (hk : k < 256) (hK : K < 1000000) :
  Calls Tryz.prog 166 #[.pointer (some ⟨b,0,none⟩),.int .u32 (id : Int),.int .u8 (k : Int)] w fun e w' => e = .returned (.int .i64 (σ.remove id k).1) ∧ Own w0 w' (RSto b (σ.remove id k).2 (K + 1) :: l) := by
 cases hl : σ.S.isLive id with
 | false =>
  have HV : Hid (σ.remove id k = (7,σ)) := by show _ = _; unfold Sto.remove; rw [if_pos hl]
  obtain ⟨x,hx,h'⟩ := RSto.opn h
  have HX : Hid (RXok σ x K) := hx
  have HE : Hid (Calls _ _ _ _ _) := rentNo w0 w l b σ x K h' hx hσ (by omega) id hl
  clear h h' hx hσ hl
  go_enter Tryz.func166,Tryz.ntmps166
  go_wp2_with fail
  refine HE.out.mono ?_
  rintro e w1 ⟨rfl,hO⟩
  have H1 : Hid (Own w0 w1 _) := hO
  clear hO HE
  go_wp2
  go_ret
  rw [HV.out]
  exact ⟨rfl,(RSto.mk HX.out (H1.out.alloc _)).rstoK (Nat.le_succ K)⟩
 | true =>
  obtain ⟨r,C,hr,he,hlC,_,h6⟩ := hσ.ent hl
  have hcps := Sto.cps_of hr he
  have hC6 : C.length ≤ 6 := (hσ.t _ h6).c6 he
  have hCk : ∀ q ∈ C,q.k < 256 := fun q hq => by have := chk_k ((lst_ok hlC).2 q hq).2; omega
  obtain ⟨y,hy,h'⟩ := RSto.opn h
  obtain ⟨r',d,hr',hd,hdi,he'⟩ := hy.row hσ hl
  have hrr : r' = r := Option.some.inj (hr'.symm.trans hr)
  subst hrr
  have hCC : d.2.1 = C := by rw [he] at he'; exact (Prod.mk.inj (Option.some.inj he')).2.symm
  have HE : Hid (Calls _ _ _ _ _) := rent w0 w l b σ y K h' hy hσ (by omega) id hl r' hr d hd
  have HCY : Hid (∀ w3 l3,Own w0 w3 (RSX b σ.S y :: l3) → Cs w3 d.2.2.1 C) := fun w3 l3 h3 => by
   obtain ⟨_,_,_,_,_,_,hc⟩ := RSX.ent w0 w3 l3 b σ y h3 _ r' h6 d hd
   rw [hCC] at hc
   exact hc
  rw [hdi,hCC] at HE
  have HY : Hid (RXok σ y K) := hy
  generalize d.2.2.1 = ae at *
  generalize d.2.2.2 = ce at *
  have hol := outk_ok hlC k
  have hoL : (outk C k).length ≤ 6 := Nat.le_trans (List.length_filter_le _ _) hC6
  have HTU : Hid (∀ w' l' ao cap,Own w0 w' (RSto b σ K :: Row 46 4 (.slice ao (outk C k).length cap) (outk C k).length (ccat (outk C k)) :: l') → Calls Tryz.prog 212 #[.pointer (some ⟨b,0,none⟩),.int .u32 (id : Int),.slice ao (outk C k).length cap] w' fun e w'' => e = .returned (.tuple #[]) ∧ Own w0 w'' (RSto b (σ.turn id (outk C k)) (K + 1) :: Row 46 4 (.slice ao (outk C k).length cap) (outk C k).length (ccat (outk C k)) :: l')) := fun w' l' ao cap h' => rturn w0 w' _ b σ K h' hσ id hid hl ao _ cap (outk C k) rfl (fun w'' h'' => Own.rcs h'' rfl) hol (by omega) hK
  have HWO : Hid (∀ w' l',Own w0 w' l' → (∀ w3,Own w0 w3 l' → Cs w3 ae C) → Calls Tryz.prog 214 #[.slice ae C.length ce,.int .u8 (k : Int)] w' fun e w'' => ∃ ao cap,e = .returned (.slice ao (outk C k).length cap) ∧ Own w0 w'' (Row 46 4 (.slice ao (outk C k).length cap) (outk C k).length (ccat (outk C k)) :: l')) := fun w' l' h' hc => rwithout_any w0 w' l' h' ae C.length ce C rfl hc hCk (by omega) k hk
  have HVN : Hid (hasK C k = false → σ.remove id k = (10,σ)) := fun hh => by unfold Sto.remove; rw [if_neg (by simp [hl]),hcps,if_pos hh]
  have HVY : Hid (hasK C k = true → σ.remove id k = (0,σ.turn id (outk C k))) := fun hh => by unfold Sto.remove; rw [if_neg (by simp [hl]),hcps,if_neg (by simp [hh])]
  clear h h' hy hσ hl hr hr' he he' hlC h6 hcps hd hdi hCC hol
  generalize outk C k = I at *
  generalize I.length = il at *
  generalize hcl : C.length = cl at *
  go_enter Tryz.func166,Tryz.ntmps166
  go_wp2_with fail
  refine HE.out.mono ?_
  rintro e w2 ⟨rfl,hO2⟩
  have hO3 := hO2.allocC #[.int .u32 (id : Int),.slice ae cl ce] 76
  have e1 := hO3.cell 1
  simp at e1
  have HFN : Hid (Calls _ _ _ _ _) := find_any _ ae cl ce C hcl (HCY.out _ _ hO3.two) hCk (by omega) k hk
  have H3 : Hid (Own w0 _ _) := hO3
  clear hO2 hO3 HE
  go_wp2_with fail
  refine HFN.out.mono ?_
  rintro e w4 ⟨r2,rfl,hf2,hcase⟩
  have hO4 := H3.out.quiet hf2
  have e1 := hO4.cell 1
  simp at e1
  have HWO4 : Hid (Calls _ _ _ _ _) := HWO.out w4 _ hO4 (fun w3 h3 => HCY.out _ _ h3.two)
  have H4 : Hid (Own w0 w4 _) := hO4
  clear hf2 HFN H3 hO4
  rcases hcase with ⟨rfl,hno⟩ | ⟨i,rfl,q,hq,hqk,hyes⟩
  ·have HV : Hid (σ.remove id k = (10,σ)) := HVN.out hno
   clear hno
   go_wp2
   go_ret
   rw [HV.out]
   exact ⟨rfl,(RSto.mk HY.out H4.out.tail).rstoK (Nat.le_succ K)⟩
  ·have HV : Hid (σ.remove id k = (0,σ.turn id I)) := HVY.out hyes
   have hi0 : ¬ (i : Int) < 0 := by omega
   clear hq hqk hyes
   go_wp2_with fail
   refine HWO4.out.mono ?_
   rintro e w5 ⟨a5,c5,rfl,hO5⟩
   have H5 : Hid (Own w0 w5 (RSto b σ K :: Row 46 4 (.slice a5 il c5) il (ccat I) :: Cells w2.heap.size #[.int .u32 (id : Int),.slice ae cl ce] 76 :: l)) := RSto.mk HY.out hO5.three
   clear hO5 HWO4 e1 H4
   go_wp2_with fail
   refine (HTU.out _ _ _ _ H5.out).mono ?_
   rintro e w6 ⟨rfl,hO6⟩
   have H6 : Hid (Own w0 w6 _) := hO6
   clear hO6
   go_wp2
   go_ret
   rw [HV.out]
   exact ⟨rfl,H6.out.two.tail.two.tail⟩
def RX.at (x : RX) (σ : Sto) (id : Nat) : REnt := ((plc (σ.T (σ.hom id)) id).bind fun r => (x.E (σ.hom id))[r]?).getD (0,[],none,0)
theorem RXok.at {σ : Sto} {x : RX} {K : Nat} (hx : RXok σ x K) (hσ : σ.Ok) {id : Nat} (hl : σ.S.isLive id = true) : (x.at σ id).e = (id,σ.cps id) ∧ (x.at σ id).1 = id ∧ (x.at σ id).2.1 = σ.cps id ∧ ∃ r,plc (σ.T (σ.hom id)) id = some r ∧ (x.E (σ.hom id))[r]? = some (x.at σ id) := by
 obtain ⟨r,d,hr,hd,hdi,he⟩ := hx.row hσ hl
 have e : x.at σ id = d := by unfold RX.at; rw [hr]; simp [hd]
 rw [e,Sto.cps_of hr he]
 obtain ⟨d1,d2,d3,d4⟩ := d
 simp only at hdi
 subst hdi
 exact ⟨rfl,rfl,rfl,r,hr,hd⟩
theorem RXok.atCs {σ : Sto} {x : RX} {K : Nat} (hx : RXok σ x K) (hσ : σ.Ok) {id : Nat} (hl : σ.S.isLive id = true) {w0 w3 : World} {l3 : List Thing} {b : Nat} (h3 : Own w0 w3 (RSX b σ.S x :: l3)) : Cs w3 (x.at σ id).2.2.1 (σ.cps id) := by
 obtain ⟨_,_,h2,r,_,hd⟩ := hx.at hσ hl
 obtain ⟨_,_,_,_,_,_,hc⟩ := RSX.ent w0 w3 l3 b σ x h3 _ r (hσ.home hl).1 _ hd
 rw [h2] at hc
 exact hc
theorem list_len {S : St} (hS : S.Ok) : S.list.length ≤ 1024 := by
 rw [← rl_all hS]
 have := rl_le S S.n
 have := hS.n2
 omega
theorem rlistS (x : RX) (h : Own w0 w (RSX b σ.S x :: l)) (hx : RXok σ x K) (hσ : σ.Ok) (hK : K ≤ 1000000) (hLV : ∀ id ∈ σ.S.list,σ.S.isLive id = true) :
  Calls Tryz.prog 52 #[.pointer (some ⟨b,0,none⟩)] w fun e w' => ∃ ao cap,e = .returned (.slice ao σ.S.list.length cap) ∧ Own w0 w' (Row 76 2 (.slice ao σ.S.list.length cap) σ.S.list.length (cat rcells (σ.S.list.map (x.at σ))) :: RSX b σ.S x :: l) := by
 obtain ⟨i0,hi,hz0,hz1,hz2⟩ := info_parts Tryz.infoEnt
 have q0 := RSX.ids w0 w l b σ x h
 have HL : Hid (Calls Tryz.prog 107 #[.pointer (some ⟨x.bs,0,none⟩)] w fun e w' => ∃ a c,e = .returned (.tuple #[.slice a σ.S.list.length c,.int .i64 (rr σ.S σ.S.n : Int)]) ∧ Own w0 w' (Row 38 1 (.slice a σ.S.list.length c) σ.S.list.length (irow .u32 σ.S.list) :: RSX b σ.S x :: l)) := by
  refine (rlist_ok w0 w _ x.bs σ.S x.f x.ck (RSX.iff.1 h).two hσ.s).mono ?_
  rintro e w' ⟨v,rfl,h2⟩
  obtain ⟨a,c,rfl⟩ := row_any h2.row
  exact ⟨a,c,rfl,(RSX.iff.2 h2.in23.back4).two⟩
 have hn := list_len hσ.s
 have HEN : Hid (∀ w' l' (j id : Nat),Own w0 w' (RSX b σ.S x :: l') → σ.S.list[j]? = some id → Calls Tryz.prog 108 #[.pointer (some ⟨b,0,none⟩),.int .u32 (id : Int)] w' fun e w'' => e = .returned (.tuple #[.agg #[.int .u32 ((x.at σ id).1 : Int),.slice (x.at σ id).2.2.1 (x.at σ id).2.1.length (x.at σ id).2.2.2],.int .i64 0]) ∧ Own w0 w'' (RSX b σ.S x :: l')) := by
  intro w' l' j id h' hj
  have hl := hLV id (List.mem_of_getElem? hj)
  obtain ⟨_,_,_,r,hr,hd⟩ := hx.at hσ hl
  exact rent w0 w' l' b σ x K h' hx hσ hK id hl r hr _ hd
 clear h hx hσ hLV
 generalize rr σ.S σ.S.n = rk at *
 obtain ⟨IL,hIL⟩ : ∃ I,I = σ.S.list := ⟨_,rfl⟩
 simp only [← hIL] at HL HEN hn ⊢
 generalize hln : IL.length = n at *
 have HN : Hid (IL.length = n) := hln
 clear hln hIL
 go_enter Tryz.func52,Tryz.ntmps52
 go_wp2_with fail
 refine HL.out.mono ?_
 rintro e w1 ⟨ia,ic,rfl,hO⟩
 have H1 : Hid (Own w0 w1 _) := hO
 clear hO HL q0
 go_wp2
 go_loopw [3,22] (fun v3 v22 wr => ∃ j : Nat,j ≤ n ∧ v22 = .int .i64 j ∧ ∃ a1 c1,v3 = .slice a1 j c1 ∧ Own w0 wr (Row 76 2 (.slice a1 j c1) j (cat rcells ((IL.map (x.at σ)).take j)) :: Row 38 1 (.slice ia n ic) n (irow .u32 IL) :: RSX b σ.S x :: l)) (fun _ v22 _ => n - (intOf v22).toNat)
 case atStart => exact ⟨0,Nat.zero_le _,rfl,none,0,rfl,by simpa [cat] using H1.out.nilRow 76 2⟩
 case round =>
  obtain ⟨j,hj,rfl,a1,c1,rfl,hO⟩ := hrel
  have HO : Hid (Own w0 wr _) := hO
  clear H1
  by_cases hlt : j < n
  ·have hlt' : (j : Int) < (n : Int) := by omega
   obtain ⟨id,hid⟩ : ∃ id,IL[j]? = some id := ⟨_,List.getElem?_eq_getElem (by rw [HN.out]; exact hlt)⟩
   obtain ⟨g,cp,hv,_⟩ := row_shape hO.two.row (by omega)
   have hia := (Value.slice.inj hv).1
   subst hia
   have c0 : wr.cell? ⟨g,j,none⟩ = some (.int .u32 (id : Int)) := by
    rw [hO.two.row.cellAt _ (by omega),getElem?_irow,hid]; rfl
   have HTK : Hid ((IL.map (x.at σ)).take (j + 1) = (IL.map (x.at σ)).take j ++ [x.at σ id]) := take_snoc _ j _ (by rw [List.getElem?_map,hid]; rfl)
   have HE : Hid (Calls _ _ _ _ _) := HEN.out wr _ j id hO.three hid
   clear hO hv hid HO
   generalize x.at σ id = d at *
   obtain ⟨d1,d2,d3,d4⟩ := d
   simp only at HE
   generalize hdl : d2.length = dl at *
   have HDL : Hid (d2.length = dl) := hdl
   clear hdl
   go_wp2_with fail
   refine HE.out.mono ?_
   rintro e w2 ⟨rfl,hO2⟩
   have hB := hO2.back3.allocC #[.int .u32 (d1 : Int),.slice d3 dl d4] 76
   have e0 := hB.cell 0
   have e1 := hB.cell 1
   simp at e0 e1
   have HB : Hid (Own w0 _ _) := hB
   clear hB hO2 HE c0
   go_wp2_with (at_builtin; refine append1_own rfl _ _ 62 rfl 76 i0 (.agg #[.int .u32 0,.slice none 0 0]) 2 32 Tryz.underlying62 hi hz0 hz1 hz2 rfl (by decide) _ _ _ rfl HB.out.two _ #[.int .u32 (d1 : Int),.slice d3 dl d4] (by simp) rfl rfl (by intro u hu; simp at hu; rcases hu with rfl | rfl <;> rfl) (by unfold maxLen; omega) (by omega) ?_)
   intro g4 c4 w4 hO4 hsz
   have H4 : Hid (Own w0 w4 (Row 76 2 (.slice (some ⟨g4,0,none⟩) (j + 1) c4) (j + 1) (cat rcells ((IL.map (x.at σ)).take (j + 1))) :: Row 38 1 (.slice (some ⟨g,0,none⟩) n ic) n (irow .u32 IL) :: RSX b σ.S x :: l)) := by
    show Own _ _ _
    rw [HTK.out,cat_append]
    have e2 : cat rcells [(d1,d2,d3,d4)] = [.int .u32 (d1 : Int),.slice d3 dl d4] := by
     show [Value.int .u32 (d1 : Int),Value.slice d3 d2.length d4] = _
     rw [HDL.out]
    rw [e2]; exact hO4.two.tail
   clear hO4 hsz HB e0 e1
   go_wp2
   go_roundw
   case rel => exact ⟨j + 1,by omega,by go_num,_,_,rfl,H4.out⟩
   case measure => simp [intOf]; omega
  ·have hjn : j = n := by omega
   subst hjn
   have hlt' : ¬ (j : Int) < (j : Int) := by omega
   clear hO
   go_wp2
   go_ret
   refine ⟨a1,c1,rfl,?_⟩
   have h5 := HO.out
   rw [List.take_of_length_le (by rw [List.length_map,HN.out]; exact Nat.le_refl _)] at h5
   exact h5.two.tail
theorem Own.rtabsNew (h : Own w0 w l) : Own w0 w (RTabsOn (List.range 64) (fun _ => .slice none 0 0) (fun _ => []) :: l) := by
 refine Own.ex_iff.2 ⟨(),?_⟩
 suffices H : ∀ is : List Nat,Own w0 w (is.map (fun m => RTE ((fun _ => .slice none 0 0 : Nat → Value) m) ((fun _ => [] : Nat → List REnt) m)) ++ l) from H _
 intro is
 induction is with
 | nil => exact h
 | cons a is ih => exact RTE.iff.2 (by simpa [cat] using ih.nilRow 76 2)
def jpair (j k : Nat) : Value := if k % 2 = 0 then .int .u8 (if k / 2 < j then ((k / 2 : Nat) : Int) else 0) else .slice none 0 0
def jcells (bs j : Nat) : Array Value := (Value.pointer (some ⟨bs,0,none⟩) :: (List.range 128).map (jpair j)).toArray
set_option maxRecDepth 100000 in
theorem jcells_zero (bs : Nat) : Tryz.zeroCells186.setIfInBounds 0 (.pointer (some ⟨bs,0,none⟩)) = jcells bs 0 := by kernel_rfl
theorem jcells_end (bs : Nat) : jcells bs 64 = rscells bs (fun _ => .slice none 0 0) := by
 unfold jcells rscells
 have : (List.range 128).map (jpair 64) = (List.range 128).map (rpair (fun _ => .slice none 0 0)) := by
  refine List.map_congr_left (fun k hk => ?_)
  have hk' : k < 128 := by simpa using hk
  unfold jpair rpair
  by_cases e : k % 2 = 0
  ·rw [if_pos e,if_pos e,if_pos (by omega)]
  ·rw [if_neg e,if_neg e]
 rw [this]
theorem jcells_set (bs j : Nat) (hj : j < 64) : (jcells bs j).setIfInBounds (1 + j * 2) (.int .u8 (j : Int)) = jcells bs (j + 1) := by
 rw [show 1 + j * 2 = j * 2 + 1 by omega]
 unfold jcells
 rw [List.setIfInBounds_toArray,List.set_cons_succ]
 have : ((List.range 128).map (jpair j)).set (j * 2) (.int .u8 (j : Int)) = (List.range 128).map (jpair (j + 1)) := by
  apply List.ext_getElem?
  intro i
  rw [List.getElem?_set]
  simp only [List.length_map,List.length_range,List.getElem?_map]
  by_cases c : j * 2 = i
  ·subst c
   rw [if_pos rfl,if_pos (by omega),List.getElem?_range (by omega)]
   show _ = some (jpair _ _)
   unfold jpair
   rw [if_pos (by omega),if_pos (by omega),show j * 2 / 2 = j by omega]
  ·rw [if_neg c]
   by_cases d : i < 128
   ·rw [List.getElem?_range d]
    show some (jpair _ _) = some (jpair _ _)
    unfold jpair
    by_cases e : i % 2 = 0
    ·rw [if_pos e,if_pos e]
     by_cases g : i / 2 < j
     ·rw [if_pos g,if_pos (by omega)]
     ·rw [if_neg g,if_neg (by omega)]
    ·rw [if_neg e,if_neg e]
   ·rw [List.getElem?_eq_none (by simp; omega)]; rfl
 rw [this]
theorem rnewS (h : Own w0 w l) (n f : Nat) (h1 : 1 ≤ n) (h2 : n ≤ 1024) (h3 : 1 ≤ f) (h4 : f ≤ 4194303) :
  Calls Tryz.prog 41 #[.int .i64 (n : Int),.int .i64 (f : Int)] w fun e w' => ∃ b,e = .returned (.tuple #[.pointer (some ⟨b,0,none⟩),.int .i64 0]) ∧ Own w0 w' (RSto b (Sto.new n f) 0 :: l) := by
 have HN : Hid (Calls _ _ _ _ _) := rnew_ok w0 w l n f h h1 h2 h3 (by omega)
 have HST : Hid (Stamp (St.new n f) (fun _ => 0) 0) := Stamp.new n f h1
 clear h
 go_enter Tryz.func41,Tryz.ntmps41
 go_wp2_with fail
 refine HN.out.mono ?_
 rintro e w1 ⟨bs,rfl,hO⟩
 have k := hO.allocC (jcells bs 0) 186
 rw [← jcells_zero] at k
 have HK : Hid (Own w0 _ _) := k
 clear hO k HN
 go_wp2
 go_loopw [22] (fun cv wr => ∃ j : Nat,j ≤ 64 ∧ cv = .int .i64 j ∧ Own w0 wr (Cells w1.heap.size (jcells bs j) 186 :: RSlots bs (St.new n f) (fun _ => 0) 0 :: l)) (fun cv _ => 64 - (intOf cv).toNat)
 case atStart => exact ⟨0,Nat.zero_le _,rfl,by rw [← jcells_zero]; exact HK.out⟩
 case round =>
  obtain ⟨j,hj,rfl,hO⟩ := hrel
  have HO : Hid (Own w0 wr _) := hO
  clear HK
  by_cases hlt : j < 64
  ·have hlt' : (j : Int) < 64 := by omega
   have y0 := hO.froz (1 + j * 2)
   have z0 := hO.cell (1 + j * 2)
   have hz : ∃ u,(jcells bs j)[1 + j * 2]? = some (.int .u8 u) := by
    rw [show 1 + j * 2 = j * 2 + 1 by omega]
    refine ⟨0,?_⟩
    simp only [jcells,List.getElem?_toArray,List.getElem?_cons_succ,List.getElem?_map]
    rw [List.getElem?_range (by omega)]
    show some (jpair _ _) = _
    unfold jpair
    rw [if_pos (by omega),if_neg (by omega)]
   obtain ⟨u,hu⟩ := hz
   rw [hu] at z0
   have HS : Hid (Own w0 (wr.setCell ⟨w1.heap.size,1 + j * 2,none⟩ (.int .u8 (j : Int))) (Cells w1.heap.size (jcells bs (j + 1)) 186 :: RSlots bs (St.new n f) (fun _ => 0) 0 :: l)) := by
    have := hO.setC (1 + j * 2) (.int .u8 (j : Int))
    rw [jcells_set bs j hlt] at this
    exact this
   clear hO hu
   go_wp2
   go_roundw
   case rel => exact ⟨j + 1,by omega,by go_num,HS.out⟩
   case measure => simp [intOf]; omega
  ·have hj6 : j = 64 := by omega
   subst hj6
   clear hO
   go_wp2
   go_ret2
   have h5 := HO.out
   rw [jcells_end] at h5
   refine ⟨_,rfl,RSto.mk (σ := Sto.new n f) (x := ⟨bs,fun _ => .slice none 0 0,fun _ => 0,0,fun _ => []⟩) ⟨HST.out,Nat.le_refl _,fun m hm => rfl,fun m hm => Nat.le_refl _⟩ (RSX.iff.2 ?_)⟩
   exact (Own.rtabsNew w0 _ _ h5).back3
end
end Go.Proofs.YtogmdoiecpihdaaGreatDoor
namespace Go.Proofs.YtogmdoiecpihdaaGreatDoor
open Go.RowKit Go.Sort Go.Shelf
set_option linter.unusedVariables false
set_option maxHeartbeats 4000000
set_option maxRecDepth 100000
section
variable {α : Type} {enc : α → List Value} {k : Nat}
theorem cat_lenK (hk : ∀ x,(enc x).length = k) (L : List α) : (cat enc L).length = L.length * k := by
 induction L with
 | nil => simp [cat]
 | cons a L ih =>
  have : cat enc (a :: L) = enc a ++ cat enc L := by simp [cat]
  rw [this,List.length_append,ih,hk,List.length_cons,Nat.succ_mul,Nat.add_comm]
variable [Inhabited α]
theorem flat_cat (hk : ∀ x,(enc x).length = k) (hk0 : 0 < k) (L : List α) : (flatK enc k L.toArray).toList = cat enc L := by
 apply List.ext_getElem?
 intro t
 by_cases ht : t < L.length * k
 ·have h1 : t < (flatK enc k L.toArray).size := by rw [size_flatK]; simpa using ht
  have h2 := get_flatK enc k L.toArray t (by simpa using ht)
  have hd : t / k < L.length := Nat.div_lt_of_lt_mul (by rw [Nat.mul_comm]; exact ht)
  have hr : t % k < k := Nat.mod_lt _ hk0
  rw [Array.getElem?_toList,Array.getElem?_eq_getElem h1,← getElem!_pos (flatK enc k L.toArray) t h1,h2]
  have e := cat_at enc k hk L (t / k) (t % k) L[t / k] (List.getElem?_eq_getElem hd) hr
  rw [Nat.mul_comm,Nat.div_add_mod] at e
  rw [e]
  have e3 : L.toArray[t / k]! = L[t / k] := by rw [getElem!_pos L.toArray (t / k) (by simpa using hd)]; simp
  rw [e3]
  have hl : t % k < (enc L[t / k]).length := by rw [hk]; exact hr
  rw [List.getElem?_eq_getElem hl,getElem!_pos (enc L[t / k]) (t % k) hl]
 ·have h1 : (flatK enc k L.toArray).size ≤ t := by rw [size_flatK]; simpa using Nat.le_of_not_lt ht
  rw [Array.getElem?_toList,Array.getElem?_eq_none h1,List.getElem?_eq_none (by rw [cat_lenK hk]; omega)]
variable {w0 w : World} {l : List Thing} {e : TypeId} {g cap : Nat} {L L' : List α}
theorem Own.holdsK (hk : ∀ x,(enc x).length = k) (hk0 : 0 < k) (h : Own w0 w (Row e k (.slice (some ⟨g,0,none⟩) L.length cap) L.length (cat enc L) :: l)) : HoldsK enc k w g 0 L.toArray := by
 intro j hj
 have hr := h.row
 have hj2 : j < L.length * k := by rw [size_flatK] at hj; simpa using hj
 refine ⟨?_,hr.frozenAt _⟩
 rw [Nat.zero_add,hr.cellAt _ hj2,← flat_cat hk hk0,Array.getElem?_toList,Array.getElem?_eq_getElem hj,getElem!_pos _ j hj]
 rfl
theorem sort_heap (m : Nat) (d : Array α) (os : Array Obj) (j : Nat) (hj : j < w.heap.size) : (sortWorldK enc k w g 0 m d os).heap[j]? = if g = j then (w.heap[j]?).map (onCells (putCells id 0 (flatK enc k d))) else w.heap[j]? := by
 show ((w.heap.modify g (onCells (putCells id 0 (flatK enc k d)))) ++ os)[j]? = _
 rw [Array.getElem?_append_left (by simpa using hj),Array.getElem?_modify]
theorem Own.sortK (hk : ∀ x,(enc x).length = k) (hk0 : 0 < k) (h : Own w0 w (Row e k (.slice (some ⟨g,0,none⟩) L.length cap) L.length (cat enc L) :: l)) (hl : L'.length = L.length) (m : Nat) (os : Array Obj) : Own w0 (sortWorldK enc k w g 0 m L'.toArray os) (Row e k (.slice (some ⟨g,0,none⟩) L'.length cap) L'.length (cat enc L') :: l) := by
 obtain ⟨h1,h2⟩ := h.row
 rcases h2 with ⟨hv,_⟩ | ⟨g',cap',cur,hv,hb,hgg,hc1,hc2,hc3,hc4⟩
 ·cases hv
 ·obtain ⟨rfl,rfl⟩ : g' = g ∧ cap' = cap := by
   simp only [Value.slice.injEq,Option.some.injEq,Addr.mk.injEq] at hv
   exact ⟨hv.1.1.symm,hv.2.2.symm⟩
  have hlt : g' < w.heap.size := (Array.getElem?_eq_some_iff.1 hgg).1
  refine h.grow (v' := .slice (some ⟨g',0,none⟩) L'.length cap') ⟨by rw [cat_lenK hk],.inr ⟨g',cap',putCells id 0 (flatK enc k L'.toArray) cur,rfl,Nat.zero_le _,?_,by omega,hc2,?_,?_⟩⟩ ⟨rfl,rfl,rfl,?_,?_⟩ (fun q hq => .inl hq)
  ·rw [sort_heap _ _ _ _ hlt,if_pos rfl,hgg]
   rfl
  ·simp [putCells,hc3]
  ·apply List.ext_getElem?
   intro t
   rw [← flat_cat hk hk0]
   by_cases ht : t < L'.length * k
   ·have h1' : t < (flatK enc k L'.toArray).size := by rw [size_flatK]; simpa using ht
    have htc : t < cur.size := by
     rw [hc3]
     have : L'.length * k ≤ cap' * k := Nat.mul_le_mul_right k (by omega)
     omega
    rw [List.getElem?_take_of_lt ht,Array.getElem?_toList,Array.getElem?_toList]
    simp only [putCells,Array.getElem?_mapIdx,Array.getElem?_eq_getElem htc,Option.map_some,Nat.zero_le,true_and,Nat.zero_add,Nat.sub_zero]
    rw [if_pos h1',Array.getElem?_eq_getElem h1',getElem!_pos _ t h1']
    rfl
   ·rw [List.getElem?_eq_none (by rw [List.length_take]; omega),List.getElem?_eq_none (by rw [Array.length_toList,size_flatK]; simpa using Nat.le_of_not_lt ht)]
  ·show w.heap.size ≤ ((w.heap.modify g' (onCells (putCells id 0 (flatK enc k L'.toArray)))) ++ os).size
   simp
  ·intro q hq hne
   rw [sort_heap _ _ _ _ hq,if_neg (fun e => hne (by rw [← e]; rfl))]
end
end Go.Proofs.YtogmdoiecpihdaaGreatDoor
