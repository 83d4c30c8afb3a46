/- The document's source: a right head (a Full's, a Step's). -/
import Derived.Test.YtgifeckbflkkpaaGreatDoorQr06
import Derived.Test.YtgifeckbflkkpaaGreatDoorQr02
import Derived.Test.YtgifeckbflkkpaaGreatDoorTie
import Derived.Test.YtgifeckbflkkpaaGreatDoorCards
import Derived.ProofKit
import Derived.OpenShut
import Derived.LaidMore
import Derived.SevenTiedAt
import Derived.Stop.Joined
import Derived.Test.YtgifeckbflkkpaaGreatDoorQr03
namespace Go.Proofs.YtgifeckbflkkpaaGreatDoor
open Go.RowKit
set_option linter.unusedVariables false
set_option maxHeartbeats 8000000
set_option maxRecDepth 100000
theorem shead1 (w0 w : World) (l : List Thing) (b c e tk s : Nat) (hR : Right 1 c e tk s) (L R : List Bool) (hL : L = headB 1 c e tk s ++ R) (hl : L.length ≤ 100000) (h : SrcO w0 w b L false l) :
  Calls Tryz.prog 43 #[.pointer (some ⟨b,0,none⟩)] w fun x w' => x = .returned (.agg (hvs 1 c e tk s)) ∧ SrcO w0 w' b R false l := by
 have hs := headB_split hL
 rw [show hasT 1 = true from rfl,if_pos rfl,if_neg (by decide),List.nil_append] at hs
 have hs0 : s = 0 := by have := hR.bf; unfold bfit at this; simpa using this
 subst hs0
 obtain ⟨L2,hL2⟩ : ∃ L2,L2 = var e ++ (bitsN 32 tk ++ R) := ⟨_,rfl⟩
 rw [← hL2] at hs
 obtain ⟨L1,hL1⟩ : ∃ L1,L1 = bitsN (wid 0 15) c ++ L2 := ⟨_,rfl⟩
 rw [← hL1] at hs
 have hl1 : L1.length ≤ L.length := by rw [hs,List.length_append]; omega
 have hl2 : L2.length ≤ L1.length := by rw [hL1,List.length_append]; omega
 have hl3 : (bitsN 32 tk ++ R).length ≤ L2.length := by rw [hL2]; simp only [List.length_append]; omega
 obtain ⟨v,hO,hb⟩ := h
 obtain ⟨av,cv,rfl⟩ := hb.shape
 have h2 := (hO.allocC #[.int .u8 0,.int .u8 0,.int .u32 0,.int .u32 0,.int .u32 0] 29).allocC #[.int .u8 0,.int .u8 0,.int .u32 0,.int .u32 0,.int .u32 0] 29
 have hg := rgetIn_any _ _ L 1 5 (hb.quiet (((Fr.refl _ _).alloc (.cells #[.int .u8 0,.int .u8 0,.int .u32 0,.int .u32 0,.int .u32 0] 29)).alloc (.cells #[.int .u8 0,.int .u8 0,.int .u32 0,.int .u32 0,.int .u32 0] 29))) hl (by decide) (by decide) (by decide) (by decide)
 have eg : gi 1 5 L = (0,1,3) := by
  rw [hs,gi_backN 1 5 0 L1 (by decide) (by decide) (by decide)]; rfl
 have ed : L.drop 3 = L1 := by rw [hs]; exact List.drop_left' (by decide +kernel)
 rw [eg] at hg
 simp only [ed] at hg
 have HG : Hid (Calls _ _ _ _ _) := hg
 have e1 : (w.alloc (.cells #[.int .u8 0,.int .u8 0,.int .u32 0,.int .u32 0,.int .u32 0] 29)).heap.size = w.heap.size + 1 := by simp
 rw [e1] at h2
 have p0 := h2.three.cell 0
 simp at p0
 have H2 : Hid (Own w0 _ _) := h2
 have HP4 : Hid (∀ W m,SrcO w0 W b L1 false m → Calls Tryz.prog 50 #[.pointer (some ⟨b,0,none⟩),.int .i64 4] W fun x w' => x = .returned (.int .u64 (c : Int)) ∧ SrcO w0 w' b L2 false m) := fun W m hW => by
  have := splain w0 W m b L1 false hW 4 (by omega) (by rw [hL1,List.length_append,length_bitsN,show wid 0 15 = 4 from by decide +kernel]; omega) (by omega)
  rw [hL1,show wid 0 15 = 4 from by decide +kernel,List.take_left' (length_bitsN _ _),num_bitsN,Nat.mod_eq_of_lt (by have := hR.c15; omega),List.drop_left' (length_bitsN _ _)] at this
  exact this
 have HCE : Hid (∀ W m,SrcO w0 W b L2 false m → Calls Tryz.prog 48 #[.pointer (some ⟨b,0,none⟩)] W fun x w' => x = .returned (.int .u64 (e : Int)) ∧ SrcO w0 w' b (bitsN 32 tk ++ R) false m) := fun W m hW => scount w0 W m b L2 _ false hW e (by have := hR.e32; omega) hL2 (by omega)
 have HP3 : Hid (∀ W m,SrcO w0 W b (bitsN 32 tk ++ R) false m → Calls Tryz.prog 50 #[.pointer (some ⟨b,0,none⟩),.int .i64 32] W fun x w' => x = .returned (.int .u64 (tk : Int)) ∧ SrcO w0 w' b R false m) := fun W m hW => by
  have := splain w0 W m b _ false hW 32 (by omega) (by rw [List.length_append,length_bitsN]; omega) (by omega)
  rw [List.take_left' (length_bitsN _ _),num_bitsN,Nat.mod_eq_of_lt (by have := hR.t32; omega),List.drop_left' (length_bitsN _ _)] at this
  exact this
 have hc0 : hchk 1 c e tk 0 = 0 := by
  unfold hchk
  rw [if_neg (by have := hR.c15; omega),if_neg (by rw [hR.tf,hR.bf]; have := hR.e1; simp; omega)]
 have HCK : Hid (∀ W,Calls Tryz.prog 72 #[.agg #[.int .u8 1,.int .u8 (c : Int),.int .u32 (e : Int),.int .u32 (tk : Int),.int .u32 0]] W fun x w' => x = .returned (.int .i64 0) ∧ Fr Nobody W w') := fun W => by
  have := hrcheck_any W 1 c e tk 0 hR.hIn
  rw [hc0] at this
  exact this
 have hwc : IntKind.u8.wrap (c : Int) = (c : Int) := by rw [IntKind.wrap_u8]; have := hR.c15; omega
 have hwe : IntKind.u32.wrap (e : Int) = (e : Int) := by rw [IntKind.wrap_u32]; have := hR.e32; omega
 have hwt : IntKind.u32.wrap (tk : Int) = (tk : Int) := by rw [IntKind.wrap_u32]; have := hR.t32; omega
 have hee : decide ((4294967295 : Int) < (e : Int)) = false := decide_eq_false (by have := hR.e32; omega)
 clear hO hb hg h2 eg ed hs hL hl hl1 hl2 hl3 hL1 hc0 e1 hL2
 go_enter Tryz.func43,Tryz.ntmps43
 go_wp2_with fail
 refine HG.out.mono ?_
 rintro x w1 ⟨u1,rfl,hb1,hf1⟩
 obtain ⟨a1,c1,rfl⟩ := hb1.shape
 have h3 := (H2.out.quiet hf1).three
 clear HG H2 hf1 p0
 generalize w.heap.size + 1 = b3 at *
 generalize w.heap.size = b2 at *
 have y0 := h3.froz 0
 have y1 := h3.froz 1
 have x0 := h3.cell 0
 have x1 := h3.cell 1
 simp at x0 x1
 have h4 := h3.setC 0 (.slice a1 L1.length c1)
 simp at h4
 have S4 : SrcO w0 _ b L1 false _ := SrcO.setBad ⟨_,h4,bs_set h3 (by decide) hb1 0 _⟩ false
 have HC4 : Hid (Calls _ _ _ _ _) := HP4.out _ _ S4
 clear h3 h4 S4 hb1 HP4
 go_wp2_with fail
 refine HC4.out.mono ?_
 rintro x w5 ⟨rfl,S5⟩
 clear HC4 y0 y1 x0 x1
 have nb := S5.neH (by decide)
 obtain ⟨nb1,nb2⟩ := nb
 have bc0 := S5.cellH 0
 have bf0 := S5.fzH 0
 have bc1 := S5.cellH 1
 have bf1 := S5.fzH 1
 have bc2 := S5.cellH 2
 have bf2 := S5.fzH 2
 have bc3 := S5.cellH 3
 have bf3 := S5.fzH 3
 have bc4 := S5.cellH 4
 have bf4 := S5.fzH 4
 have bb := S5.bad
 have bz := S5.fz 1
 simp at bc0 bc1 bc2 bc3 bc4
 have S6 := (S5.setH (by decide) 0 (.int .u8 1)).setH (by decide) 1 (.int .u8 (c : Int))
 simp only [List.setIfInBounds_toArray,List.set_cons_zero,List.set_cons_succ] at S6
 have HC5 : Hid (Calls _ _ _ _ _) := HCE.out _ _ S6
 clear S5 S6 HCE
 go_wp2_with fail
 refine HC5.out.mono ?_
 rintro x w7 ⟨rfl,S7⟩
 clear HC5
 clear bc0 bc1 bc2 bc3 bc4 bf0 bf1 bf2 bf3 bf4 bb bz
 have bc0 := S7.cellH 0
 have bf0 := S7.fzH 0
 have bc1 := S7.cellH 1
 have bf1 := S7.fzH 1
 have bc2 := S7.cellH 2
 have bf2 := S7.fzH 2
 have bc3 := S7.cellH 3
 have bf3 := S7.fzH 3
 have bc4 := S7.cellH 4
 have bf4 := S7.fzH 4
 have bb := S7.bad
 have bz := S7.fz 1
 simp at bc0 bc1 bc2 bc3 bc4
 have S8 := S7.setH (by decide) 2 (.int .u32 (e : Int))
 simp only [List.setIfInBounds_toArray,List.set_cons_zero,List.set_cons_succ] at S8
 have g1 := S8.bad
 have g2 := S8.fz 1
 have S9 := S8.setBad false
 have x3 := S9.cellH 0
 simp only [List.getElem?_toArray,List.getElem?_cons_zero] at x3
 have HC6 : Hid (Calls _ _ _ _ _) := HP3.out _ _ S9
 clear S7 S8 S9 HP3
 go_wp2_with fail
 refine HC6.out.mono ?_
 rintro x w9 ⟨rfl,S9⟩
 clear HC6 g1 g2 x3
 clear bc0 bc1 bc2 bc3 bc4 bf0 bf1 bf2 bf3 bf4 bb bz
 have bc0 := S9.cellH 0
 have bf0 := S9.fzH 0
 have bc1 := S9.cellH 1
 have bf1 := S9.fzH 1
 have bc2 := S9.cellH 2
 have bf2 := S9.fzH 2
 have bc3 := S9.cellH 3
 have bf3 := S9.fzH 3
 have bc4 := S9.cellH 4
 have bf4 := S9.fzH 4
 have bb := S9.bad
 have bz := S9.fz 1
 simp at bc0 bc1 bc2 bc3 bc4
 have S10 := S9.setH (by decide) 3 (.int .u32 (tk : Int))
 simp only [List.setIfInBounds_toArray,List.set_cons_zero,List.set_cons_succ] at S10
 have g1 := S10.bad
 have k0 := S10.cellH 0
 have k1 := S10.cellH 1
 have k2 := S10.cellH 2
 have k3 := S10.cellH 3
 have k4 := S10.cellH 4
 simp only [List.getElem?_toArray,List.getElem?_cons_zero,List.getElem?_cons_succ] at k0 k1 k2 k3 k4
 have HC7 : Hid (Calls _ _ _ _ _) := HCK.out (w9.setCell ⟨b3,3,none⟩ (.int .u32 (tk : Int)))
 have HS10 : Hid (SrcO w0 _ b R false _) := S10
 clear S9 S10 HCK
 go_wp2_with fail
 refine HC7.out.mono ?_
 rintro x w11 ⟨rfl,hf11⟩
 have S11 := HS10.out.quiet hf11
 clear HC7 hf11 HS10 g1 k0 k1 k2 k3 k4
 clear bc0 bc1 bc2 bc3 bc4 bf0 bf1 bf2 bf3 bf4 bb bz
 have bc0 := S11.cellH 0
 have bf0 := S11.fzH 0
 have bc1 := S11.cellH 1
 have bf1 := S11.fzH 1
 have bc2 := S11.cellH 2
 have bf2 := S11.fzH 2
 have bc3 := S11.cellH 3
 have bf3 := S11.fzH 3
 have bc4 := S11.cellH 4
 have bf4 := S11.fzH 4
 have bb := S11.bad
 have bz := S11.fz 1
 simp at bc0 bc1 bc2 bc3 bc4
 have S11b := S11.perm (List.Perm.swap _ _ l)
 have cc0 := S11b.cellH 0
 have cf0 := S11b.fzH 0
 have cc1 := S11b.cellH 1
 have cf1 := S11b.fzH 1
 have cc2 := S11b.cellH 2
 have cf2 := S11b.fzH 2
 have cc3 := S11b.cellH 3
 have cf3 := S11b.fzH 3
 have cc4 := S11b.cellH 4
 have cf4 := S11b.fzH 4
 simp at cc0 cc1 cc2 cc3 cc4
 have mb := S11b.neH (by decide)
 obtain ⟨mb1,mb2⟩ := mb
 clear S11b
 have g1 := S11.bad
 have g2 := S11.fz 1
 have S12 := S11.setBad false
 have k0 := S12.cellH 0
 have k1 := S12.cellH 1
 have k2 := S12.cellH 2
 have k3 := S12.cellH 3
 have k4 := S12.cellH 4
 have S13 := S12.perm (List.Perm.swap _ _ l)
 have z0 := S13.fzH 0
 have z1 := S13.fzH 1
 have z2 := S13.fzH 2
 have z3 := S13.fzH 3
 have z4 := S13.fzH 4
 have j0 := S13.cellH 0
 have j1 := S13.cellH 1
 have j2 := S13.cellH 2
 have j3 := S13.cellH 3
 have j4 := S13.cellH 4
 simp at k0 k1 k2 k3 k4 j0 j1 j2 j3 j4
 have S14 := ((((S13.setH (by decide) 0 (.int .u8 1)).setH (by decide) 1 (.int .u8 (c : Int))).setH (by decide) 2 (.int .u32 (e : Int))).setH (by decide) 3 (.int .u32 (tk : Int))).setH (by decide) 4 (.int .u32 0)
 simp only [List.setIfInBounds_toArray,List.set_cons_zero,List.set_cons_succ] at S14
 have HS14 : Hid (SrcO w0 _ b R false _) := S14
 clear S11 S12 S13 S14
 go_wp2
 (try simp only [Exit.inBlock,Exit.then])
 refine bodyPost_ret (v := .agg #[.int .u8 1,.int .u8 (c : Int),.int .u32 (e : Int),.int .u32 (tk : Int),.int .u32 0]) ?_ rfl ⟨rfl,HS14.out.tail.tail⟩
 rw [results_cell1L rfl]
 have r0 := HS14.out.cellH 0
 have r1 := HS14.out.cellH 1
 have r2 := HS14.out.cellH 2
 have r3 := HS14.out.cellH 3
 have r4 := HS14.out.cellH 4
 simp at r0 r1 r2 r3 r4
 go_simp
theorem shead2 (w0 w : World) (l : List Thing) (b c e tk s : Nat) (hR : Right 2 c e tk s) (L R : List Bool) (hL : L = headB 2 c e tk s ++ R) (hl : L.length ≤ 100000) (h : SrcO w0 w b L false l) :
  Calls Tryz.prog 43 #[.pointer (some ⟨b,0,none⟩)] w fun x w' => x = .returned (.agg (hvs 2 c e tk s)) ∧ SrcO w0 w' b R false l := by
 have hs := headB_split hL
 rw [show hasT 2 = true from rfl,if_pos rfl,if_pos rfl] at hs
 have hsb : s < tk := bfit2 hR.bf
 obtain ⟨d,hd⟩ : ∃ d,d = tk - s - 1 := ⟨_,rfl⟩
 rw [← hd] at hs
 obtain ⟨L2,hL2⟩ : ∃ L2,L2 = var e ++ (bitsN 32 tk ++ (var d ++ R)) := ⟨_,rfl⟩
 rw [← hL2] at hs
 obtain ⟨L1,hL1⟩ : ∃ L1,L1 = bitsN (wid 0 15) c ++ L2 := ⟨_,rfl⟩
 rw [← hL1] at hs
 have hl1 : L1.length ≤ L.length := by rw [hs,List.length_append]; omega
 have hl2 : L2.length ≤ L1.length := by rw [hL1,List.length_append]; omega
 have hl3 : (bitsN 32 tk ++ (var d ++ R)).length ≤ L2.length := by rw [hL2]; simp only [List.length_append]; omega
 obtain ⟨v,hO,hb⟩ := h
 obtain ⟨av,cv,rfl⟩ := hb.shape
 have h2 := (hO.allocC #[.int .u8 0,.int .u8 0,.int .u32 0,.int .u32 0,.int .u32 0] 29).allocC #[.int .u8 0,.int .u8 0,.int .u32 0,.int .u32 0,.int .u32 0] 29
 have hg := rgetIn_any _ _ L 1 5 (hb.quiet (((Fr.refl _ _).alloc (.cells #[.int .u8 0,.int .u8 0,.int .u32 0,.int .u32 0,.int .u32 0] 29)).alloc (.cells #[.int .u8 0,.int .u8 0,.int .u32 0,.int .u32 0,.int .u32 0] 29))) hl (by decide) (by decide) (by decide) (by decide)
 have eg : gi 1 5 L = (0,2,3) := by
  rw [hs,gi_backN 1 5 1 L1 (by decide) (by decide) (by decide)]; rfl
 have ed : L.drop 3 = L1 := by rw [hs]; exact List.drop_left' (by decide +kernel)
 rw [eg] at hg
 simp only [ed] at hg
 have HG : Hid (Calls _ _ _ _ _) := hg
 have e1 : (w.alloc (.cells #[.int .u8 0,.int .u8 0,.int .u32 0,.int .u32 0,.int .u32 0] 29)).heap.size = w.heap.size + 1 := by simp
 rw [e1] at h2
 have p0 := h2.three.cell 0
 simp at p0
 have H2 : Hid (Own w0 _ _) := h2
 have HP4 : Hid (∀ W m,SrcO w0 W b L1 false m → Calls Tryz.prog 50 #[.pointer (some ⟨b,0,none⟩),.int .i64 4] W fun x w' => x = .returned (.int .u64 (c : Int)) ∧ SrcO w0 w' b L2 false m) := fun W m hW => by
  have := splain w0 W m b L1 false hW 4 (by omega) (by rw [hL1,List.length_append,length_bitsN,show wid 0 15 = 4 from by decide +kernel]; omega) (by omega)
  rw [hL1,show wid 0 15 = 4 from by decide +kernel,List.take_left' (length_bitsN _ _),num_bitsN,Nat.mod_eq_of_lt (by have := hR.c15; omega),List.drop_left' (length_bitsN _ _)] at this
  exact this
 have HCE : Hid (∀ W m,SrcO w0 W b L2 false m → Calls Tryz.prog 48 #[.pointer (some ⟨b,0,none⟩)] W fun x w' => x = .returned (.int .u64 (e : Int)) ∧ SrcO w0 w' b (bitsN 32 tk ++ (var d ++ R)) false m) := fun W m hW => scount w0 W m b L2 _ false hW e (by have := hR.e32; omega) hL2 (by omega)
 have HP3 : Hid (∀ W m,SrcO w0 W b (bitsN 32 tk ++ (var d ++ R)) false m → Calls Tryz.prog 50 #[.pointer (some ⟨b,0,none⟩),.int .i64 32] W fun x w' => x = .returned (.int .u64 (tk : Int)) ∧ SrcO w0 w' b (var d ++ R) false m) := fun W m hW => by
  have := splain w0 W m b _ false hW 32 (by omega) (by rw [List.length_append,length_bitsN]; omega) (by omega)
  rw [List.take_left' (length_bitsN _ _),num_bitsN,Nat.mod_eq_of_lt (by have := hR.t32; omega),List.drop_left' (length_bitsN _ _)] at this
  exact this
 have HCD : Hid (∀ W m,SrcO w0 W b (var d ++ R) false m → Calls Tryz.prog 48 #[.pointer (some ⟨b,0,none⟩)] W fun x w' => x = .returned (.int .u64 (d : Int)) ∧ SrcO w0 w' b R false m) := fun W m hW => scount w0 W m b _ R false hW d (by have := hR.t32; omega) rfl (by rw [List.length_append] at hl3; omega)
 have hc0 : hchk 2 c e tk s = 0 := by
  unfold hchk
  rw [if_neg (by have := hR.c15; omega),if_neg (by rw [hR.tf,hR.bf]; have := hR.e1; simp; omega)]
 have HCK : Hid (∀ W,Calls Tryz.prog 72 #[.agg #[.int .u8 2,.int .u8 (c : Int),.int .u32 (e : Int),.int .u32 (tk : Int),.int .u32 (s : Int)]] W fun x w' => x = .returned (.int .i64 0) ∧ Fr Nobody W w') := fun W => by
  have := hrcheck_any W 2 c e tk s hR.hIn
  rw [hc0] at this
  exact this
 have hwc : IntKind.u8.wrap (c : Int) = (c : Int) := by rw [IntKind.wrap_u8]; have := hR.c15; omega
 have hwe : IntKind.u32.wrap (e : Int) = (e : Int) := by rw [IntKind.wrap_u32]; have := hR.e32; omega
 have hwt : IntKind.u32.wrap (tk : Int) = (tk : Int) := by rw [IntKind.wrap_u32]; have := hR.t32; omega
 have hee : decide ((4294967295 : Int) < (e : Int)) = false := decide_eq_false (by have := hR.e32; omega)
 have hwd : IntKind.u32.wrap (d : Int) = (d : Int) := by rw [IntKind.wrap_u32]; have := hR.t32; omega
 have hge : decide ((tk : Int) ≤ (d : Int)) = false := decide_eq_false (by omega)
 have hge2 : decide (tk ≤ d) = false := decide_eq_false (by omega)
 have hsm : (s : Int) % 4294967296 = (s : Int) := by have := hR.s32; omega
 have hw1 : IntKind.u32.wrap ((tk : Int) - (d : Int)) = ((s + 1 : Nat) : Int) := by rw [IntKind.wrap_u32]; have := hR.t32; omega
 have hw2 : IntKind.u32.wrap (((s + 1 : Nat) : Int) - 1) = (s : Int) := by rw [IntKind.wrap_u32]; have := hR.s32; omega
 have hw64 : IntKind.u64.wrap (tk : Int) = (tk : Int) := by rw [IntKind.wrap_u64]; have := hR.t32; omega
 clear hO hb hg h2 eg ed hs hL hl hl1 hl2 hl3 hL1 hc0 e1 hL2 hd hsb
 go_enter Tryz.func43,Tryz.ntmps43
 go_wp2_with fail
 refine HG.out.mono ?_
 rintro x w1 ⟨u1,rfl,hb1,hf1⟩
 obtain ⟨a1,c1,rfl⟩ := hb1.shape
 have h3 := (H2.out.quiet hf1).three
 clear HG H2 hf1 p0
 generalize w.heap.size + 1 = b3 at *
 generalize w.heap.size = b2 at *
 have y0 := h3.froz 0
 have y1 := h3.froz 1
 have x0 := h3.cell 0
 have x1 := h3.cell 1
 simp at x0 x1
 have h4 := h3.setC 0 (.slice a1 L1.length c1)
 simp at h4
 have S4 : SrcO w0 _ b L1 false _ := SrcO.setBad ⟨_,h4,bs_set h3 (by decide) hb1 0 _⟩ false
 have HC4 : Hid (Calls _ _ _ _ _) := HP4.out _ _ S4
 clear h3 h4 S4 hb1 HP4
 go_wp2_with fail
 refine HC4.out.mono ?_
 rintro x w5 ⟨rfl,S5⟩
 clear HC4 y0 y1 x0 x1
 have nb := S5.neH (by decide)
 obtain ⟨nb1,nb2⟩ := nb
 have bc0 := S5.cellH 0
 have bf0 := S5.fzH 0
 have bc1 := S5.cellH 1
 have bf1 := S5.fzH 1
 have bc2 := S5.cellH 2
 have bf2 := S5.fzH 2
 have bc3 := S5.cellH 3
 have bf3 := S5.fzH 3
 have bc4 := S5.cellH 4
 have bf4 := S5.fzH 4
 have bb := S5.bad
 have bz := S5.fz 1
 simp at bc0 bc1 bc2 bc3 bc4
 have S6 := (S5.setH (by decide) 0 (.int .u8 2)).setH (by decide) 1 (.int .u8 (c : Int))
 simp only [List.setIfInBounds_toArray,List.set_cons_zero,List.set_cons_succ] at S6
 have HC5 : Hid (Calls _ _ _ _ _) := HCE.out _ _ S6
 clear S5 S6 HCE
 go_wp2_with fail
 refine HC5.out.mono ?_
 rintro x w7 ⟨rfl,S7⟩
 clear HC5
 clear bc0 bc1 bc2 bc3 bc4 bf0 bf1 bf2 bf3 bf4 bb bz
 have bc0 := S7.cellH 0
 have bf0 := S7.fzH 0
 have bc1 := S7.cellH 1
 have bf1 := S7.fzH 1
 have bc2 := S7.cellH 2
 have bf2 := S7.fzH 2
 have bc3 := S7.cellH 3
 have bf3 := S7.fzH 3
 have bc4 := S7.cellH 4
 have bf4 := S7.fzH 4
 have bb := S7.bad
 have bz := S7.fz 1
 simp at bc0 bc1 bc2 bc3 bc4
 have S8 := S7.setH (by decide) 2 (.int .u32 (e : Int))
 simp only [List.setIfInBounds_toArray,List.set_cons_zero,List.set_cons_succ] at S8
 have g1 := S8.bad
 have g2 := S8.fz 1
 have S9 := S8.setBad false
 have x3 := S9.cellH 0
 simp only [List.getElem?_toArray,List.getElem?_cons_zero] at x3
 have HC6 : Hid (Calls _ _ _ _ _) := HP3.out _ _ S9
 clear S7 S8 S9 HP3
 go_wp2_with fail
 refine HC6.out.mono ?_
 rintro x w9 ⟨rfl,S9⟩
 clear HC6 g1 g2 x3
 clear bc0 bc1 bc2 bc3 bc4 bf0 bf1 bf2 bf3 bf4 bb bz
 have bc0 := S9.cellH 0
 have bf0 := S9.fzH 0
 have bc1 := S9.cellH 1
 have bf1 := S9.fzH 1
 have bc2 := S9.cellH 2
 have bf2 := S9.fzH 2
 have bc3 := S9.cellH 3
 have bf3 := S9.fzH 3
 have bc4 := S9.cellH 4
 have bf4 := S9.fzH 4
 have bb := S9.bad
 have bz := S9.fz 1
 simp at bc0 bc1 bc2 bc3 bc4
 have S10 := S9.setH (by decide) 3 (.int .u32 (tk : Int))
 simp only [List.setIfInBounds_toArray,List.set_cons_zero,List.set_cons_succ] at S10
 have k0 := S10.cellH 0
 simp only [List.getElem?_toArray,List.getElem?_cons_zero] at k0
 have HCX : Hid (Calls _ _ _ _ _) := HCD.out _ _ S10
 clear S9 S10 HCD
 go_wp2_with fail
 refine HCX.out.mono ?_
 rintro x w10 ⟨rfl,S10⟩
 clear HCX k0
 clear bc0 bc1 bc2 bc3 bc4 bf0 bf1 bf2 bf3 bf4 bb bz
 have bc0 := S10.cellH 0
 have bf0 := S10.fzH 0
 have bc1 := S10.cellH 1
 have bf1 := S10.fzH 1
 have bc2 := S10.cellH 2
 have bf2 := S10.fzH 2
 have bc3 := S10.cellH 3
 have bf3 := S10.fzH 3
 have bc4 := S10.cellH 4
 have bf4 := S10.fzH 4
 have bb := S10.bad
 have bz := S10.fz 1
 simp at bc0 bc1 bc2 bc3 bc4
 have Sb := S10.setBad false
 have Sc := Sb.setH (by decide) 4 (.int .u32 (s : Int))
 simp only [List.setIfInBounds_toArray,List.set_cons_zero,List.set_cons_succ] at Sc
 have g3 := Sb.cellH 3
 have g4 := Sb.fzH 4
 have g1 := Sc.bad
 have k0 := Sc.cellH 0
 have k1 := Sc.cellH 1
 have k2 := Sc.cellH 2
 have k3 := Sc.cellH 3
 have k4 := Sc.cellH 4
 simp only [List.getElem?_toArray,List.getElem?_cons_zero,List.getElem?_cons_succ] at g3 k0 k1 k2 k3 k4
 have HC7 : Hid (Calls _ _ _ _ _) := HCK.out ((w10.setCell ⟨b,1,none⟩ (.bool false)).setCell ⟨b3,4,none⟩ (.int .u32 (s : Int)))
 have HS10 : Hid (SrcO w0 _ b R false _) := Sc
 clear S10 Sb Sc HCK
 go_wp2_with fail
 refine HC7.out.mono ?_
 rintro x w11 ⟨rfl,hf11⟩
 have S11 := HS10.out.quiet hf11
 clear HC7 hf11 HS10 g1 g3 g4 k0 k1 k2 k3 k4
 clear bc0 bc1 bc2 bc3 bc4 bf0 bf1 bf2 bf3 bf4 bb bz
 have bc0 := S11.cellH 0
 have bf0 := S11.fzH 0
 have bc1 := S11.cellH 1
 have bf1 := S11.fzH 1
 have bc2 := S11.cellH 2
 have bf2 := S11.fzH 2
 have bc3 := S11.cellH 3
 have bf3 := S11.fzH 3
 have bc4 := S11.cellH 4
 have bf4 := S11.fzH 4
 have bb := S11.bad
 have bz := S11.fz 1
 simp at bc0 bc1 bc2 bc3 bc4
 have S11b := S11.perm (List.Perm.swap _ _ l)
 have cc0 := S11b.cellH 0
 have cf0 := S11b.fzH 0
 have cc1 := S11b.cellH 1
 have cf1 := S11b.fzH 1
 have cc2 := S11b.cellH 2
 have cf2 := S11b.fzH 2
 have cc3 := S11b.cellH 3
 have cf3 := S11b.fzH 3
 have cc4 := S11b.cellH 4
 have cf4 := S11b.fzH 4
 simp at cc0 cc1 cc2 cc3 cc4
 have mb := S11b.neH (by decide)
 obtain ⟨mb1,mb2⟩ := mb
 clear S11b
 have g1 := S11.bad
 have g2 := S11.fz 1
 have S12 := S11.setBad false
 have k0 := S12.cellH 0
 have k1 := S12.cellH 1
 have k2 := S12.cellH 2
 have k3 := S12.cellH 3
 have k4 := S12.cellH 4
 have S13 := S12.perm (List.Perm.swap _ _ l)
 have z0 := S13.fzH 0
 have z1 := S13.fzH 1
 have z2 := S13.fzH 2
 have z3 := S13.fzH 3
 have z4 := S13.fzH 4
 have j0 := S13.cellH 0
 have j1 := S13.cellH 1
 have j2 := S13.cellH 2
 have j3 := S13.cellH 3
 have j4 := S13.cellH 4
 simp at k0 k1 k2 k3 k4 j0 j1 j2 j3 j4
 have S14 := ((((S13.setH (by decide) 0 (.int .u8 2)).setH (by decide) 1 (.int .u8 (c : Int))).setH (by decide) 2 (.int .u32 (e : Int))).setH (by decide) 3 (.int .u32 (tk : Int))).setH (by decide) 4 (.int .u32 (s : Int))
 simp only [List.setIfInBounds_toArray,List.set_cons_zero,List.set_cons_succ] at S14
 have HS14 : Hid (SrcO w0 _ b R false _) := S14
 clear S11 S12 S13 S14
 go_wp2
 (try simp only [Exit.inBlock,Exit.then])
 refine bodyPost_ret (v := .agg #[.int .u8 2,.int .u8 (c : Int),.int .u32 (e : Int),.int .u32 (tk : Int),.int .u32 (s : Int)]) ?_ rfl ⟨rfl,HS14.out.tail.tail⟩
 rw [results_cell1L rfl]
 have r0 := HS14.out.cellH 0
 have r1 := HS14.out.cellH 1
 have r2 := HS14.out.cellH 2
 have r3 := HS14.out.cellH 3
 have r4 := HS14.out.cellH 4
 simp at r0 r1 r2 r3 r4
 go_simp
end Go.Proofs.YtgifeckbflkkpaaGreatDoor
namespace Go.Proofs.YtgifeckbflkkpaaGreatDoor
open Go.ChangeShapes Go.WideShapes Go.ChangeAt Go.WideMaps Go.WideElems Go.RowKit
set_option linter.unusedVariables false
set_option maxHeartbeats 8000000
set_option maxRecDepth 100000
def kinds : List (List UInt8 × Bool × Nat × List (List UInt8 × Int × Int)) :=
 [([112,111,115],true,2,[([120],-524288,524287),([121],-524288,524287),([],0,0)]),
  ([118,101,108],true,2,[([100,120],-32768,32767),([100,121],-32768,32767),([],0,0)]),
  ([108,105,102,101],true,1,[([108,101,102,116],0,4095),([],0,0),([],0,0)]),
  ([98,111,100,121],true,3,[([115,104,97,112,101],0,15),([104,112],0,1000),([115,105,122,101],1,100)]),
  ([116,97,103],true,3,[([116,101,97,109],0,7),([99,111,108,111,114],0,255),([102,108,97,103,115],0,31)]),
  ([115,112,97,119,110],false,3,[([101,118,101,114,121],1,255),([108,101,102,116],0,254),([115,104,97,112,101],0,15)])]
def kname (k : Nat) : List UInt8 := (kinds[k]?.map (·.1)).getD []
def ktold (k : Nat) : Bool := (kinds[k]?.map (·.2.1)).getD false
def cnt (k : Nat) : Nat := (kinds[k]?.map (·.2.2.1)).getD 0
def fld (k j : Nat) : List UInt8 × Int × Int := ((kinds[k]?.map (·.2.2.2)).getD [])[j]?.getD ([],0,0)
def fname (k j : Nat) : List UInt8 := (fld k j).1
def lo (k j : Nat) : Int := (fld k j).2.1
def hi (k j : Nat) : Int := (fld k j).2.2
def bstr5 (l : List UInt8) : ByteArray := ⟨l.toArray⟩
def fldData {H : Type} (f : List UInt8 × Int × Int) : DataW H := .agg [.lit (.string f.1),.lit (.int .i32 f.2.1),.lit (.int .i32 f.2.2)]
def kindData {H : Type} (r : List UInt8 × Bool × Nat × List (List UInt8 × Int × Int)) : DataW H := .agg [.lit (.string r.1),.lit (.bool r.2.1),.lit (.int .i64 (r.2.2.1 : Int)),.agg (r.2.2.2.map fldData)]
theorem laid_kinds {H : Type} : (Rows.laid_pinnace_schema_rows : DataW H) = .agg (kinds.map kindData) := rfl
theorem own : ownKnob Tryz.prog.godebug = none := by kernel_rfl
theorem gRows : Tryz.prog.globalNamed "pinnace/schema.rows" = some 1 := by kernel_rfl
theorem tRows : (Tryz.prog.globals[1]?).map (·.type) = some 263 := by kernel_rfl
def laid1 {H : Type} : List (String × DataW H) := [("pinnace/frame.steps",Rows.laid_pinnace_frame_steps),("pinnace/schema.rows",Rows.laid_pinnace_schema_rows)]
structure Tab (w : World) : Prop where
 nm : ∀ k,k < 6 → w.cell? ⟨1,k * 12,none⟩ = some (.string (bstr5 (kname k)))
 told : ∀ k,k < 6 → w.cell? ⟨1,k * 12 + 1,none⟩ = some (.bool (ktold k))
 cnt : ∀ k,k < 6 → w.cell? ⟨1,k * 12 + 2,none⟩ = some (.int .i64 (cnt k : Int))
 fnm : ∀ k j,k < 6 → j < 3 → w.cell? ⟨1,k * 12 + 3 + j * 3,none⟩ = some (.string (bstr5 (fname k j)))
 lo : ∀ k j,k < 6 → j < 3 → w.cell? ⟨1,k * 12 + 3 + j * 3 + 1,none⟩ = some (.int .i32 (lo k j))
 hi : ∀ k j,k < 6 → j < 3 → w.cell? ⟨1,k * 12 + 3 + j * 3 + 2,none⟩ = some (.int .i32 (hi k j))
theorem Tab.keep {S : Nat → Prop} {w w' : World} (h : Tab w) (hf : Fr S w w') (hs : ¬ S 1) : Tab w' := by
 have key : ∀ (o : Nat) (v : Value),w.cell? ⟨1,o,none⟩ = some v → w'.cell? ⟨1,o,none⟩ = some v := fun o v hv => (hf.cell (p := ⟨1,o,none⟩) (World.block_lt_of_cell? w _ hv) hs).trans hv
 exact ⟨fun k hk => key _ _ (h.nm k hk),fun k hk => key _ _ (h.told k hk),fun k hk => key _ _ (h.cnt k hk),fun k j hk hj => key _ _ (h.fnm k j hk hj),fun k j hk hj => key _ _ (h.lo k j hk hj),fun k j hk hj => key _ _ (h.hi k j hk hj)⟩
theorem Tab.quiet {w w' : World} (h : Tab w) (hf : Fr Nobody w w') : Tab w' := h.keep hf id
theorem Tab.size {w : World} (h : Tab w) : 1 < w.heap.size := World.block_lt_of_cell? w _ (h.nm 0 (by decide))
theorem sub_cell {α : Type} {cs l : List α} {a n j : Nat} (h : ((cs.drop a).take n) = l) (hj : j < n) : cs[a + j]? = l[j]? := by
 subst h
 rw [List.getElem?_take,if_pos hj,List.getElem?_drop]
theorem fld_len (k : Nat) (hk : k < 6) : ((kinds[k]?.map (·.2.2.2)).getD []).length = 3 := by
 have : k = 0 ∨ k = 1 ∨ k = 2 ∨ k = 3 ∨ k = 4 ∨ k = 5 := by omega
 rcases this with rfl | rfl | rfl | rfl | rfl | rfl <;> rfl
theorem str_of {s : ByteArray} {l : List UInt8} (h : l = s.data.toList) : s = bstr5 l := by
 subst h; rfl
theorem fld_cells {H : Type} {enc : TypeId × Value → H} {w : World} {base : Nat} {spare : Nat → Bool} {held : Bool} {fuel : Nat} {cs : List Value} {f : List UInt8 × Int × Int} {p : List MemPlace}
  (h : DataW.trod enc Tryz.prog w base spare held fuel 259 cs = some (fldData f,p)) : cs = [.string (bstr5 f.1),.int .i32 f.2.1,.int .i32 f.2.2] := by
 obtain ⟨xs,n,_,hx,hl,hlen,hf⟩ := DataW.trod_struct Tryz.underlying259 h
 have cS : Tryz.prog.cellsOf 9 = 1 := by kernel_rfl
 have cI : Tryz.prog.cellsOf 21 = 1 := by kernel_rfl
 have cF : Tryz.prog.cellsOf 259 = 3 := by kernel_rfl
 rw [cF] at hl
 match cs,hl with
 | [c0,c1,c2],_ =>
 match xs,hlen with
 | [y0,y1,y2],_ =>
  have h0 := hf 0 _ rfl
  have h1 := hf 1 _ rfl
  have h2 := hf 2 _ rfl
  simp [cS,cI] at h0 h1 h2
  obtain ⟨s,e0,e0',_⟩ := DataW.trod_string Tryz.underlying9 h0
  obtain ⟨a,e1,e1',_⟩ := DataW.trod_int Tryz.underlying21 h1
  obtain ⟨b,e2,e2',_⟩ := DataW.trod_int Tryz.underlying21 h2
  subst e0' e1' e2'
  simp [fldData] at hx e0 e1 e2
  obtain ⟨⟨hs,ha,hb⟩,_⟩ := hx
  subst e0 e1 e2
  rw [str_of hs,← ha,← hb]
theorem getElem?_fld (k j : Nat) (hk : k < 6) (hj : j < 3) : ((kinds[k]?.map (·.2.2.2)).getD [])[j]? = some (fld k j) := by
 have hl := fld_len k hk
 unfold fld
 rw [List.getElem?_eq_getElem (by rw [hl]; exact hj)]
 rfl
theorem of_laid {W : World} (h : laidMetH Tryz.prog laid1 W) : Tab W := by
 rw [MakeChecks.laidMetH_plain _ _ _ (by kernel_rfl)] at h
 obtain ⟨ps,⟨_,_,_,_,_,_,_,_,_,_,⟨g0,t0,cs0,f0,p0,q0,hg0,ht0,hv0,hd0,_,_⟩,_⟩,_,_⟩ := h
 obtain rfl := Option.some.inj (gRows.symm.trans hg0)
 obtain rfl := Option.some.inj (tRows.symm.trans ht0)
 obtain ⟨xs,m1,hx0,hx1,hlen,hn3,hel⟩ := DataW.trod_array Tryz.underlying263 hd0
 have cR : Tryz.prog.cellsOf 262 = 12 := by kernel_rfl
 have cS : Tryz.prog.cellsOf 9 = 1 := by kernel_rfl
 have cI : Tryz.prog.cellsOf 3 = 1 := by kernel_rfl
 have cBo : Tryz.prog.cellsOf 4 = 1 := by kernel_rfl
 have cF : Tryz.prog.cellsOf 259 = 3 := by kernel_rfl
 have cFs : Tryz.prog.cellsOf 260 = 9 := by kernel_rfl
 simp only [Prod.mk.injEq,laid_kinds,DataW.agg.injEq] at hx1
 have main : ∀ k,k < 6 → ∃ r,kinds[k]? = some r ∧ ∃ l : List Value,(cs0.toList.drop (k * 12)).take 12 = l ∧ l[0]? = some (.string (bstr5 r.1)) ∧ l[1]? = some (.bool r.2.1) ∧ l[2]? = some (.int .i64 (r.2.2.1 : Int)) ∧ ∀ j f,j < 3 → r.2.2.2[j]? = some f → (l.drop (3 + j * 3)).take 3 = [.string (bstr5 f.1),.int .i32 f.2.1,.int .i32 f.2.2] := by
  intro k hk
  have h0 := hel k hk
  have hxi : xs[k]? = some xs[k] := List.getElem?_eq_getElem (by rw [hn3]; exact hk)
  have hkk : kinds[k]? = some kinds[k] := List.getElem?_eq_getElem hk
  refine ⟨kinds[k],hkk,_,rfl,?_⟩
  rw [cR] at h0
  generalize hl : (cs0.toList.drop (k * 12)).take 12 = l at *
  have hd : kindData (H := Unit) kinds[k] = (xs[k]).1 := by
   have h1 : (kinds.map (kindData (H := Unit)))[k]? = some (kindData kinds[k]) := by rw [List.getElem?_map,hkk]; rfl
   rw [hx1.1,List.getElem?_map,hxi] at h1
   simpa using h1.symm
  generalize kinds[k] = r at *
  obtain ⟨ys,n,_,hy,hyl,hylen,hf⟩ := DataW.trod_struct Tryz.underlying262 (h0.trans hxi)
  rw [cR] at hyl
  match l,hyl with
  | [c0,c1,c2,c3,c4,c5,c6,c7,c8,c9,c10,c11],_ =>
  match ys,hylen with
  | [y0,y1,y2,y3],_ =>
   have h0 := hf 0 _ rfl
   have h1 := hf 1 _ rfl
   have h2 := hf 2 _ rfl
   have h3 := hf 3 _ rfl
   simp [cS,cI,cBo,cFs] at h0 h1 h2 h3
   obtain ⟨s,e0,e0',_⟩ := DataW.trod_string Tryz.underlying9 h0
   obtain ⟨a,e1,e1'⟩ := DataW.trod_bool Tryz.underlying4 h1
   obtain ⟨b,e2,e2',_⟩ := DataW.trod_int Tryz.underlying3 h2
   obtain ⟨zs,m2,hz0,hz1,hzlen,hz3,hzel⟩ := DataW.trod_array Tryz.underlying260 h3
   rw [hy] at hd
   subst e0' e1' e2'
   simp [kindData] at hd e0 e1 e2
   obtain ⟨hs,ha,hb,hfs⟩ := hd
   subst e0 e1 e2
   refine ⟨by rw [str_of hs]; rfl,by rw [ha]; rfl,by rw [hb]; rfl,?_⟩
   intro j f hj hjf
   have hzj := hzel j hj
   have hzi : zs[j]? = some zs[j] := List.getElem?_eq_getElem (by rw [hz3]; exact hj)
   rw [cF,hzi] at hzj
   have hdat : (zs[j]).1 = fldData f := by
    have h1 : (r.2.2.2.map (fldData (H := Unit)))[j]? = some (fldData f) := by rw [List.getElem?_map,hjf]; rfl
    simp only [hz1,DataW.agg.injEq] at hfs
    rw [hfs,List.getElem?_map,hzi] at h1
    simpa using h1
   have hz' : zs[j] = (fldData f,(zs[j]).2) := by rw [← hdat]
   rw [hz'] at hzj
   have := fld_cells hzj
   rw [← this,← List.drop_drop]
   simp
 have cellOf : ∀ (o : Nat) (v : Value),cs0.toList[o]? = some v → W.cell? ⟨1,o,none⟩ = some v := fun o v hv => by
  rw [World.var?_cell hg0 hv0 o,← Array.getElem?_toList]; exact hv
 have pre : ∀ k o v,k < 6 → o < 12 → ((cs0.toList.drop (k * 12)).take 12)[o]? = some v → W.cell? ⟨1,k * 12 + o,none⟩ = some v := fun k o v hk ho hv => by
  apply cellOf
  rw [List.getElem?_take,if_pos ho,List.getElem?_drop] at hv
  exact hv
 refine ⟨fun k hk => ?_,fun k hk => ?_,fun k hk => ?_,fun k j hk hj => ?_,fun k j hk hj => ?_,fun k j hk hj => ?_⟩
 all_goals obtain ⟨r,hr,l,hl,l0,l1,l2,l3⟩ := main k hk
 ·rw [← hl] at l0; have := pre k 0 _ hk (by decide) l0
  simpa [kname,hr] using this
 ·rw [← hl] at l1; have := pre k 1 _ hk (by decide) l1
  simpa [ktold,hr] using this
 ·rw [← hl] at l2; have := pre k 2 _ hk (by decide) l2
  simpa [Go.Proofs.YtgifeckbflkkpaaGreatDoor.cnt,hr] using this
 all_goals
  have hfj := getElem?_fld k j hk hj
  rw [hr] at hfj
  have h3 := l3 j _ hj hfj
  rw [← hl] at h3
 ·have := pre k (3 + j * 3 + 0) _ hk (by omega) (by rw [sub_cell h3 (by decide)]; rfl)
  rw [Nat.add_assoc]; exact this
 ·have := pre k (3 + j * 3 + 1) _ hk (by omega) (by rw [sub_cell h3 (by decide)]; rfl)
  rw [Nat.add_assoc,Nat.add_assoc]; exact this
 ·have := pre k (3 + j * 3 + 2) _ hk (by omega) (by rw [sub_cell h3 (by decide)]; rfl)
  rw [Nat.add_assoc,Nat.add_assoc]; exact this
end Go.Proofs.YtgifeckbflkkpaaGreatDoor
namespace Go.Proofs.YtgifeckbflkkpaaGreatDoor
open Go.RowKit
set_option linter.unusedVariables false
set_option maxHeartbeats 8000000
theorem cnt_out (k : Nat) (h : 6 ≤ k) : cnt k = 0 := by unfold cnt; rw [List.getElem?_eq_none (by exact h)]; rfl
theorem cnt_le (k : Nat) : cnt k ≤ 3 := by
 by_cases h : 6 ≤ k
 ·rw [cnt_out k h]; decide
 ·have : k = 0 ∨ k = 1 ∨ k = 2 ∨ k = 3 ∨ k = 4 ∨ k = 5 := by omega
  rcases this with rfl | rfl | rfl | rfl | rfl | rfl <;> decide
theorem cnt_pos (k : Nat) (h : k < 6) : 1 ≤ cnt k := by
 have : k = 0 ∨ k = 1 ∨ k = 2 ∨ k = 3 ∨ k = 4 ∨ k = 5 := by omega
 rcases this with rfl | rfl | rfl | rfl | rfl | rfl <;> decide
theorem count_any (w : World) (ht : Tab w) (k : Nat) (hk : k < 256) :
  Calls Tryz.prog 203 #[.int .u8 (k : Int)] w fun e w' => e = .returned (.int .i64 ((cnt k : Nat) : Int)) ∧ w' = w := by
 by_cases h : k < 6
 ·have h1 := ht.cnt k h
  generalize cnt k = c at *
  clear ht
  go_enter Tryz.func203,Tryz.ntmps203
  go_wp2
  go_ret
  exact ⟨rfl,rfl⟩
 ·rw [cnt_out k (by omega)]
  clear ht
  go_enter Tryz.func203,Tryz.ntmps203
  go_wp2
  go_ret
  exact ⟨rfl,rfl⟩
theorem ktold_out (k : Nat) (h : 6 ≤ k) : ktold k = false := by unfold ktold; rw [List.getElem?_eq_none (by exact h)]; rfl
theorem told_any (w : World) (ht : Tab w) (k : Nat) (hk : k < 256) :
  Calls Tryz.prog 149 #[.int .u8 (k : Int)] w fun e w' => e = .returned (.bool (ktold k)) ∧ w' = w := by
 by_cases h : k < 6
 ·have h1 := ht.told k h
  generalize ktold k = c at *
  clear ht
  go_enter Tryz.func149,Tryz.ntmps149
  go_wp2
  go_ret
  exact ⟨rfl,rfl⟩
 ·rw [ktold_out k (by omega)]
  clear ht
  go_enter Tryz.func149,Tryz.ntmps149
  go_wp2
  go_ret
  exact ⟨rfl,rfl⟩
def has (k : Nat) (i : Int) : Bool := decide (0 ≤ i ∧ i < (cnt k : Int))
theorem hasField_any (w : World) (ht : Tab w) (k : Nat) (hk : k < 256) (i : Int) :
  Calls Tryz.prog 245 #[.int .u8 (k : Int),.int .i64 i] w fun e w' => e = .returned (.bool (has k i)) ∧ w' = w := by
 have H : Hid (Tab w) := ht
 clear ht
 by_cases h : 0 ≤ i
 ·go_enter Tryz.func245,Tryz.ntmps245
  go_wp2_with fail
  refine (count_any w H.out k hk).mono ?_
  rintro e w' ⟨rfl,rfl⟩
  go_wp2
  go_ret
  refine ⟨?_,rfl⟩
  simp [has,h]
 ·go_enter Tryz.func245,Tryz.ntmps245
  go_wp2
  go_ret
  refine ⟨?_,rfl⟩
  simp [has]; omega
theorem has_nat (k : Nat) (i : Int) (h : has k i = true) : ∃ j : Nat,i = (j : Int) ∧ j < cnt k ∧ k < 6 ∧ j < 3 := by
 simp only [has,decide_eq_true_eq] at h
 obtain ⟨h0,h1⟩ := h
 have h3 := cnt_le k
 have h6 : k < 6 := by
  rcases Nat.lt_or_ge k 6 with h | h
  ·exact h
  ·rw [cnt_out k h] at h1; omega
 obtain ⟨j,rfl⟩ := Int.eq_ofNat_of_zero_le h0
 exact ⟨j,rfl,by omega,h6,by omega⟩
theorem range_ok (w : World) (ht : Tab w) (k : Nat) (hk : k < 256) (j : Nat) (hj : j < cnt k) :
  Calls Tryz.prog 227 #[.int .u8 (k : Int),.int .i64 (j : Int)] w fun e w' => e = .returned (.tuple #[.int .i32 (lo k j),.int .i32 (hi k j),.int .i64 0]) ∧ Fr Nobody w w' := by
 have h : has k j = true := by simp only [has,decide_eq_true_eq]; omega
 obtain ⟨j',e,_,h6,h3⟩ := has_nat k j h
 obtain rfl : j = j' := by omega
 have H : Hid (Tab w) := ht
 have hx := ht.lo k j h6 h3
 have hy := ht.hi k j h6 h3
 clear ht e
 generalize lo k j = a at *
 generalize hi k j = b at *
 clear hj
 go_enter Tryz.func227,Tryz.ntmps227
 go_wp2_with fail
 refine (hasField_any w H.out k hk j).mono ?_
 rintro e w' ⟨rfl,rfl⟩
 rw [h]
 clear h
 go_wp2
 go_quiet (fail)
 go_wp2
 go_ret3
 exact ⟨rfl,(Fr.refl _ _).drewN _⟩
end Go.Proofs.YtgifeckbflkkpaaGreatDoor
