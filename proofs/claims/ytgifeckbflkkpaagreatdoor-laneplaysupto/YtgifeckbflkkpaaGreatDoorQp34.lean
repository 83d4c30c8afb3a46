/- The document's source: a right head (a Full's, a Step's). -/
import Derived.Test.YtgifeckbflkkpaaGreatDoorQp33
import Derived.Test.YtgifeckbflkkpaaGreatDoorQp14
import Derived.Test.YtgifeckbflkkpaaGreatDoorQp29
namespace Go.Proofs.YtgifeckbflkkpaaGreatDoor
open Go.RowKit
set_option linter.unusedVariables false
set_option maxHeartbeats 8000000
set_option maxRecDepth 100000
theorem shead1 (w0 w : World) (l : List Thing) (b c e tk s : Nat) (hR : Right 1 c e tk s) (L R : List Bool) (hL : L = headB 1 c e tk s ++ R) (hl : L.length ≤ 100000) (h : SrcO w0 w b L false l) :
  Calls Tryz.prog 43 #[.pointer (some ⟨b,0,none⟩)] w fun x w' => x = .returned (.agg (hvs 1 c e tk s)) ∧ SrcO w0 w' b R false l := by
 have hs := headB_split hL
 rw [show hasT 1 = true from rfl,if_pos rfl,if_neg (by decide),List.nil_append] at hs
 have hs0 : s = 0 := by have := hR.bf; unfold bfit at this; simpa using this
 subst hs0
 obtain ⟨L2,hL2⟩ : ∃ L2,L2 = var e ++ (bitsN 32 tk ++ R) := ⟨_,rfl⟩
 rw [← hL2] at hs
 obtain ⟨L1,hL1⟩ : ∃ L1,L1 = bitsN (wid 0 15) c ++ L2 := ⟨_,rfl⟩
 rw [← hL1] at hs
 have hl1 : L1.length ≤ L.length := by rw [hs,List.length_append]; omega
 have hl2 : L2.length ≤ L1.length := by rw [hL1,List.length_append]; omega
 have hl3 : (bitsN 32 tk ++ R).length ≤ L2.length := by rw [hL2]; simp only [List.length_append]; omega
 obtain ⟨v,hO,hb⟩ := h
 obtain ⟨av,cv,rfl⟩ := hb.shape
 have h2 := (hO.allocC #[.int .u8 0,.int .u8 0,.int .u32 0,.int .u32 0,.int .u32 0] 29).allocC #[.int .u8 0,.int .u8 0,.int .u32 0,.int .u32 0,.int .u32 0] 29
 have hg := rgetIn_any _ _ L 1 5 (hb.quiet (((Fr.refl _ _).alloc (.cells #[.int .u8 0,.int .u8 0,.int .u32 0,.int .u32 0,.int .u32 0] 29)).alloc (.cells #[.int .u8 0,.int .u8 0,.int .u32 0,.int .u32 0,.int .u32 0] 29))) hl (by decide) (by decide) (by decide) (by decide)
 have eg : gi 1 5 L = (0,1,3) := by
  rw [hs,gi_backN 1 5 0 L1 (by decide) (by decide) (by decide)]; rfl
 have ed : L.drop 3 = L1 := by rw [hs]; exact List.drop_left' (by decide +kernel)
 rw [eg] at hg
 simp only [ed] at hg
 have HG : Hid (Calls _ _ _ _ _) := hg
 have e1 : (w.alloc (.cells #[.int .u8 0,.int .u8 0,.int .u32 0,.int .u32 0,.int .u32 0] 29)).heap.size = w.heap.size + 1 := by simp
 rw [e1] at h2
 have p0 := h2.three.cell 0
 simp at p0
 have H2 : Hid (Own w0 _ _) := h2
 have HP4 : Hid (∀ W m,SrcO w0 W b L1 false m → Calls Tryz.prog 50 #[.pointer (some ⟨b,0,none⟩),.int .i64 4] W fun x w' => x = .returned (.int .u64 (c : Int)) ∧ SrcO w0 w' b L2 false m) := fun W m hW => by
  have := splain w0 W m b L1 false hW 4 (by omega) (by rw [hL1,List.length_append,length_bitsN,show wid 0 15 = 4 from by decide +kernel]; omega) (by omega)
  rw [hL1,show wid 0 15 = 4 from by decide +kernel,List.take_left' (length_bitsN _ _),num_bitsN,Nat.mod_eq_of_lt (by have := hR.c15; omega),List.drop_left' (length_bitsN _ _)] at this
  exact this
 have HCE : Hid (∀ W m,SrcO w0 W b L2 false m → Calls Tryz.prog 48 #[.pointer (some ⟨b,0,none⟩)] W fun x w' => x = .returned (.int .u64 (e : Int)) ∧ SrcO w0 w' b (bitsN 32 tk ++ R) false m) := fun W m hW => scount w0 W m b L2 _ false hW e (by have := hR.e32; omega) hL2 (by omega)
 have HP3 : Hid (∀ W m,SrcO w0 W b (bitsN 32 tk ++ R) false m → Calls Tryz.prog 50 #[.pointer (some ⟨b,0,none⟩),.int .i64 32] W fun x w' => x = .returned (.int .u64 (tk : Int)) ∧ SrcO w0 w' b R false m) := fun W m hW => by
  have := splain w0 W m b _ false hW 32 (by omega) (by rw [List.length_append,length_bitsN]; omega) (by omega)
  rw [List.take_left' (length_bitsN _ _),num_bitsN,Nat.mod_eq_of_lt (by have := hR.t32; omega),List.drop_left' (length_bitsN _ _)] at this
  exact this
 have hc0 : hchk 1 c e tk 0 = 0 := by
  unfold hchk
  rw [if_neg (by have := hR.c15; omega),if_neg (by rw [hR.tf,hR.bf]; have := hR.e1; simp; omega)]
 have HCK : Hid (∀ W,Calls Tryz.prog 72 #[.agg #[.int .u8 1,.int .u8 (c : Int),.int .u32 (e : Int),.int .u32 (tk : Int),.int .u32 0]] W fun x w' => x = .returned (.int .i64 0) ∧ Fr Nobody W w') := fun W => by
  have := hrcheck_any W 1 c e tk 0 hR.hIn
  rw [hc0] at this
  exact this
 have hwc : IntKind.u8.wrap (c : Int) = (c : Int) := by rw [IntKind.wrap_u8]; have := hR.c15; omega
 have hwe : IntKind.u32.wrap (e : Int) = (e : Int) := by rw [IntKind.wrap_u32]; have := hR.e32; omega
 have hwt : IntKind.u32.wrap (tk : Int) = (tk : Int) := by rw [IntKind.wrap_u32]; have := hR.t32; omega
 have hee : decide ((4294967295 : Int) < (e : Int)) = false := decide_eq_false (by have := hR.e32; omega)
 clear hO hb hg h2 eg ed hs hL hl hl1 hl2 hl3 hL1 hc0 e1 hL2
 go_enter Tryz.func43,Tryz.ntmps43
 go_wp2_with fail
 refine HG.out.mono ?_
 rintro x w1 ⟨u1,rfl,hb1,hf1⟩
 obtain ⟨a1,c1,rfl⟩ := hb1.shape
 have h3 := (H2.out.quiet hf1).three
 clear HG H2 hf1 p0
 generalize w.heap.size + 1 = b3 at *
 generalize w.heap.size = b2 at *
 have y0 := h3.froz 0
 have y1 := h3.froz 1
 have x0 := h3.cell 0
 have x1 := h3.cell 1
 simp at x0 x1
 have h4 := h3.setC 0 (.slice a1 L1.length c1)
 simp at h4
 have S4 : SrcO w0 _ b L1 false _ := SrcO.setBad ⟨_,h4,bs_set h3 (by decide) hb1 0 _⟩ false
 have HC4 : Hid (Calls _ _ _ _ _) := HP4.out _ _ S4
 clear h3 h4 S4 hb1 HP4
 go_wp2_with fail
 refine HC4.out.mono ?_
 rintro x w5 ⟨rfl,S5⟩
 clear HC4 y0 y1 x0 x1
 have nb := S5.neH (by decide)
 obtain ⟨nb1,nb2⟩ := nb
 have bc0 := S5.cellH 0
 have bf0 := S5.fzH 0
 have bc1 := S5.cellH 1
 have bf1 := S5.fzH 1
 have bc2 := S5.cellH 2
 have bf2 := S5.fzH 2
 have bc3 := S5.cellH 3
 have bf3 := S5.fzH 3
 have bc4 := S5.cellH 4
 have bf4 := S5.fzH 4
 have bb := S5.bad
 have bz := S5.fz 1
 simp at bc0 bc1 bc2 bc3 bc4
 have S6 := (S5.setH (by decide) 0 (.int .u8 1)).setH (by decide) 1 (.int .u8 (c : Int))
 simp only [List.setIfInBounds_toArray,List.set_cons_zero,List.set_cons_succ] at S6
 have HC5 : Hid (Calls _ _ _ _ _) := HCE.out _ _ S6
 clear S5 S6 HCE
 go_wp2_with fail
 refine HC5.out.mono ?_
 rintro x w7 ⟨rfl,S7⟩
 clear HC5
 clear bc0 bc1 bc2 bc3 bc4 bf0 bf1 bf2 bf3 bf4 bb bz
 have bc0 := S7.cellH 0
 have bf0 := S7.fzH 0
 have bc1 := S7.cellH 1
 have bf1 := S7.fzH 1
 have bc2 := S7.cellH 2
 have bf2 := S7.fzH 2
 have bc3 := S7.cellH 3
 have bf3 := S7.fzH 3
 have bc4 := S7.cellH 4
 have bf4 := S7.fzH 4
 have bb := S7.bad
 have bz := S7.fz 1
 simp at bc0 bc1 bc2 bc3 bc4
 have S8 := S7.setH (by decide) 2 (.int .u32 (e : Int))
 simp only [List.setIfInBounds_toArray,List.set_cons_zero,List.set_cons_succ] at S8
 have g1 := S8.bad
 have g2 := S8.fz 1
 have S9 := S8.setBad false
 have x3 := S9.cellH 0
 simp only [List.getElem?_toArray,List.getElem?_cons_zero] at x3
 have HC6 : Hid (Calls _ _ _ _ _) := HP3.out _ _ S9
 clear S7 S8 S9 HP3
 go_wp2_with fail
 refine HC6.out.mono ?_
 rintro x w9 ⟨rfl,S9⟩
 clear HC6 g1 g2 x3
 clear bc0 bc1 bc2 bc3 bc4 bf0 bf1 bf2 bf3 bf4 bb bz
 have bc0 := S9.cellH 0
 have bf0 := S9.fzH 0
 have bc1 := S9.cellH 1
 have bf1 := S9.fzH 1
 have bc2 := S9.cellH 2
 have bf2 := S9.fzH 2
 have bc3 := S9.cellH 3
 have bf3 := S9.fzH 3
 have bc4 := S9.cellH 4
 have bf4 := S9.fzH 4
 have bb := S9.bad
 have bz := S9.fz 1
 simp at bc0 bc1 bc2 bc3 bc4
 have S10 := S9.setH (by decide) 3 (.int .u32 (tk : Int))
 simp only [List.setIfInBounds_toArray,List.set_cons_zero,List.set_cons_succ] at S10
 have g1 := S10.bad
 have k0 := S10.cellH 0
 have k1 := S10.cellH 1
 have k2 := S10.cellH 2
 have k3 := S10.cellH 3
 have k4 := S10.cellH 4
 simp only [List.getElem?_toArray,List.getElem?_cons_zero,List.getElem?_cons_succ] at k0 k1 k2 k3 k4
 have HC7 : Hid (Calls _ _ _ _ _) := HCK.out (w9.setCell ⟨b3,3,none⟩ (.int .u32 (tk : Int)))
 have HS10 : Hid (SrcO w0 _ b R false _) := S10
 clear S9 S10 HCK
 go_wp2_with fail
 refine HC7.out.mono ?_
 rintro x w11 ⟨rfl,hf11⟩
 have S11 := HS10.out.quiet hf11
 clear HC7 hf11 HS10 g1 k0 k1 k2 k3 k4
 clear bc0 bc1 bc2 bc3 bc4 bf0 bf1 bf2 bf3 bf4 bb bz
 have bc0 := S11.cellH 0
 have bf0 := S11.fzH 0
 have bc1 := S11.cellH 1
 have bf1 := S11.fzH 1
 have bc2 := S11.cellH 2
 have bf2 := S11.fzH 2
 have bc3 := S11.cellH 3
 have bf3 := S11.fzH 3
 have bc4 := S11.cellH 4
 have bf4 := S11.fzH 4
 have bb := S11.bad
 have bz := S11.fz 1
 simp at bc0 bc1 bc2 bc3 bc4
 have S11b := S11.perm (List.Perm.swap _ _ l)
 have cc0 := S11b.cellH 0
 have cf0 := S11b.fzH 0
 have cc1 := S11b.cellH 1
 have cf1 := S11b.fzH 1
 have cc2 := S11b.cellH 2
 have cf2 := S11b.fzH 2
 have cc3 := S11b.cellH 3
 have cf3 := S11b.fzH 3
 have cc4 := S11b.cellH 4
 have cf4 := S11b.fzH 4
 simp at cc0 cc1 cc2 cc3 cc4
 have mb := S11b.neH (by decide)
 obtain ⟨mb1,mb2⟩ := mb
 clear S11b
 have g1 := S11.bad
 have g2 := S11.fz 1
 have S12 := S11.setBad false
 have k0 := S12.cellH 0
 have k1 := S12.cellH 1
 have k2 := S12.cellH 2
 have k3 := S12.cellH 3
 have k4 := S12.cellH 4
 have S13 := S12.perm (List.Perm.swap _ _ l)
 have z0 := S13.fzH 0
 have z1 := S13.fzH 1
 have z2 := S13.fzH 2
 have z3 := S13.fzH 3
 have z4 := S13.fzH 4
 have j0 := S13.cellH 0
 have j1 := S13.cellH 1
 have j2 := S13.cellH 2
 have j3 := S13.cellH 3
 have j4 := S13.cellH 4
 simp at k0 k1 k2 k3 k4 j0 j1 j2 j3 j4
 have S14 := ((((S13.setH (by decide) 0 (.int .u8 1)).setH (by decide) 1 (.int .u8 (c : Int))).setH (by decide) 2 (.int .u32 (e : Int))).setH (by decide) 3 (.int .u32 (tk : Int))).setH (by decide) 4 (.int .u32 0)
 simp only [List.setIfInBounds_toArray,List.set_cons_zero,List.set_cons_succ] at S14
 have HS14 : Hid (SrcO w0 _ b R false _) := S14
 clear S11 S12 S13 S14
 go_wp2
 (try simp only [Exit.inBlock,Exit.then])
 refine bodyPost_ret (v := .agg #[.int .u8 1,.int .u8 (c : Int),.int .u32 (e : Int),.int .u32 (tk : Int),.int .u32 0]) ?_ rfl ⟨rfl,HS14.out.tail.tail⟩
 rw [results_cell1L rfl]
 have r0 := HS14.out.cellH 0
 have r1 := HS14.out.cellH 1
 have r2 := HS14.out.cellH 2
 have r3 := HS14.out.cellH 3
 have r4 := HS14.out.cellH 4
 simp at r0 r1 r2 r3 r4
 go_simp
theorem shead2 (w0 w : World) (l : List Thing) (b c e tk s : Nat) (hR : Right 2 c e tk s) (L R : List Bool) (hL : L = headB 2 c e tk s ++ R) (hl : L.length ≤ 100000) (h : SrcO w0 w b L false l) :
  Calls Tryz.prog 43 #[.pointer (some ⟨b,0,none⟩)] w fun x w' => x = .returned (.agg (hvs 2 c e tk s)) ∧ SrcO w0 w' b R false l := by
 have hs := headB_split hL
 rw [show hasT 2 = true from rfl,if_pos rfl,if_pos rfl] at hs
 have hsb : s < tk := bfit2 hR.bf
 obtain ⟨d,hd⟩ : ∃ d,d = tk - s - 1 := ⟨_,rfl⟩
 rw [← hd] at hs
 obtain ⟨L2,hL2⟩ : ∃ L2,L2 = var e ++ (bitsN 32 tk ++ (var d ++ R)) := ⟨_,rfl⟩
 rw [← hL2] at hs
 obtain ⟨L1,hL1⟩ : ∃ L1,L1 = bitsN (wid 0 15) c ++ L2 := ⟨_,rfl⟩
 rw [← hL1] at hs
 have hl1 : L1.length ≤ L.length := by rw [hs,List.length_append]; omega
 have hl2 : L2.length ≤ L1.length := by rw [hL1,List.length_append]; omega
 have hl3 : (bitsN 32 tk ++ (var d ++ R)).length ≤ L2.length := by rw [hL2]; simp only [List.length_append]; omega
 obtain ⟨v,hO,hb⟩ := h
 obtain ⟨av,cv,rfl⟩ := hb.shape
 have h2 := (hO.allocC #[.int .u8 0,.int .u8 0,.int .u32 0,.int .u32 0,.int .u32 0] 29).allocC #[.int .u8 0,.int .u8 0,.int .u32 0,.int .u32 0,.int .u32 0] 29
 have hg := rgetIn_any _ _ L 1 5 (hb.quiet (((Fr.refl _ _).alloc (.cells #[.int .u8 0,.int .u8 0,.int .u32 0,.int .u32 0,.int .u32 0] 29)).alloc (.cells #[.int .u8 0,.int .u8 0,.int .u32 0,.int .u32 0,.int .u32 0] 29))) hl (by decide) (by decide) (by decide) (by decide)
 have eg : gi 1 5 L = (0,2,3) := by
  rw [hs,gi_backN 1 5 1 L1 (by decide) (by decide) (by decide)]; rfl
 have ed : L.drop 3 = L1 := by rw [hs]; exact List.drop_left' (by decide +kernel)
 rw [eg] at hg
 simp only [ed] at hg
 have HG : Hid (Calls _ _ _ _ _) := hg
 have e1 : (w.alloc (.cells #[.int .u8 0,.int .u8 0,.int .u32 0,.int .u32 0,.int .u32 0] 29)).heap.size = w.heap.size + 1 := by simp
 rw [e1] at h2
 have p0 := h2.three.cell 0
 simp at p0
 have H2 : Hid (Own w0 _ _) := h2
 have HP4 : Hid (∀ W m,SrcO w0 W b L1 false m → Calls Tryz.prog 50 #[.pointer (some ⟨b,0,none⟩),.int .i64 4] W fun x w' => x = .returned (.int .u64 (c : Int)) ∧ SrcO w0 w' b L2 false m) := fun W m hW => by
  have := splain w0 W m b L1 false hW 4 (by omega) (by rw [hL1,List.length_append,length_bitsN,show wid 0 15 = 4 from by decide +kernel]; omega) (by omega)
  rw [hL1,show wid 0 15 = 4 from by decide +kernel,List.take_left' (length_bitsN _ _),num_bitsN,Nat.mod_eq_of_lt (by have := hR.c15; omega),List.drop_left' (length_bitsN _ _)] at this
  exact this
 have HCE : Hid (∀ W m,SrcO w0 W b L2 false m → Calls Tryz.prog 48 #[.pointer (some ⟨b,0,none⟩)] W fun x w' => x = .returned (.int .u64 (e : Int)) ∧ SrcO w0 w' b (bitsN 32 tk ++ (var d ++ R)) false m) := fun W m hW => scount w0 W m b L2 _ false hW e (by have := hR.e32; omega) hL2 (by omega)
 have HP3 : Hid (∀ W m,SrcO w0 W b (bitsN 32 tk ++ (var d ++ R)) false m → Calls Tryz.prog 50 #[.pointer (some ⟨b,0,none⟩),.int .i64 32] W fun x w' => x = .returned (.int .u64 (tk : Int)) ∧ SrcO w0 w' b (var d ++ R) false m) := fun W m hW => by
  have := splain w0 W m b _ false hW 32 (by omega) (by rw [List.length_append,length_bitsN]; omega) (by omega)
  rw [List.take_left' (length_bitsN _ _),num_bitsN,Nat.mod_eq_of_lt (by have := hR.t32; omega),List.drop_left' (length_bitsN _ _)] at this
  exact this
 have HCD : Hid (∀ W m,SrcO w0 W b (var d ++ R) false m → Calls Tryz.prog 48 #[.pointer (some ⟨b,0,none⟩)] W fun x w' => x = .returned (.int .u64 (d : Int)) ∧ SrcO w0 w' b R false m) := fun W m hW => scount w0 W m b _ R false hW d (by have := hR.t32; omega) rfl (by rw [List.length_append] at hl3; omega)
 have hc0 : hchk 2 c e tk s = 0 := by
  unfold hchk
  rw [if_neg (by have := hR.c15; omega),if_neg (by rw [hR.tf,hR.bf]; have := hR.e1; simp; omega)]
 have HCK : Hid (∀ W,Calls Tryz.prog 72 #[.agg #[.int .u8 2,.int .u8 (c : Int),.int .u32 (e : Int),.int .u32 (tk : Int),.int .u32 (s : Int)]] W fun x w' => x = .returned (.int .i64 0) ∧ Fr Nobody W w') := fun W => by
  have := hrcheck_any W 2 c e tk s hR.hIn
  rw [hc0] at this
  exact this
 have hwc : IntKind.u8.wrap (c : Int) = (c : Int) := by rw [IntKind.wrap_u8]; have := hR.c15; omega
 have hwe : IntKind.u32.wrap (e : Int) = (e : Int) := by rw [IntKind.wrap_u32]; have := hR.e32; omega
 have hwt : IntKind.u32.wrap (tk : Int) = (tk : Int) := by rw [IntKind.wrap_u32]; have := hR.t32; omega
 have hee : decide ((4294967295 : Int) < (e : Int)) = false := decide_eq_false (by have := hR.e32; omega)
 have hwd : IntKind.u32.wrap (d : Int) = (d : Int) := by rw [IntKind.wrap_u32]; have := hR.t32; omega
 have hge : decide ((tk : Int) ≤ (d : Int)) = false := decide_eq_false (by omega)
 have hge2 : decide (tk ≤ d) = false := decide_eq_false (by omega)
 have hsm : (s : Int) % 4294967296 = (s : Int) := by have := hR.s32; omega
 have hw1 : IntKind.u32.wrap ((tk : Int) - (d : Int)) = ((s + 1 : Nat) : Int) := by rw [IntKind.wrap_u32]; have := hR.t32; omega
 have hw2 : IntKind.u32.wrap (((s + 1 : Nat) : Int) - 1) = (s : Int) := by rw [IntKind.wrap_u32]; have := hR.s32; omega
 have hw64 : IntKind.u64.wrap (tk : Int) = (tk : Int) := by rw [IntKind.wrap_u64]; have := hR.t32; omega
 clear hO hb hg h2 eg ed hs hL hl hl1 hl2 hl3 hL1 hc0 e1 hL2 hd hsb
 go_enter Tryz.func43,Tryz.ntmps43
 go_wp2_with fail
 refine HG.out.mono ?_
 rintro x w1 ⟨u1,rfl,hb1,hf1⟩
 obtain ⟨a1,c1,rfl⟩ := hb1.shape
 have h3 := (H2.out.quiet hf1).three
 clear HG H2 hf1 p0
 generalize w.heap.size + 1 = b3 at *
 generalize w.heap.size = b2 at *
 have y0 := h3.froz 0
 have y1 := h3.froz 1
 have x0 := h3.cell 0
 have x1 := h3.cell 1
 simp at x0 x1
 have h4 := h3.setC 0 (.slice a1 L1.length c1)
 simp at h4
 have S4 : SrcO w0 _ b L1 false _ := SrcO.setBad ⟨_,h4,bs_set h3 (by decide) hb1 0 _⟩ false
 have HC4 : Hid (Calls _ _ _ _ _) := HP4.out _ _ S4
 clear h3 h4 S4 hb1 HP4
 go_wp2_with fail
 refine HC4.out.mono ?_
 rintro x w5 ⟨rfl,S5⟩
 clear HC4 y0 y1 x0 x1
 have nb := S5.neH (by decide)
 obtain ⟨nb1,nb2⟩ := nb
 have bc0 := S5.cellH 0
 have bf0 := S5.fzH 0
 have bc1 := S5.cellH 1
 have bf1 := S5.fzH 1
 have bc2 := S5.cellH 2
 have bf2 := S5.fzH 2
 have bc3 := S5.cellH 3
 have bf3 := S5.fzH 3
 have bc4 := S5.cellH 4
 have bf4 := S5.fzH 4
 have bb := S5.bad
 have bz := S5.fz 1
 simp at bc0 bc1 bc2 bc3 bc4
 have S6 := (S5.setH (by decide) 0 (.int .u8 2)).setH (by decide) 1 (.int .u8 (c : Int))
 simp only [List.setIfInBounds_toArray,List.set_cons_zero,List.set_cons_succ] at S6
 have HC5 : Hid (Calls _ _ _ _ _) := HCE.out _ _ S6
 clear S5 S6 HCE
 go_wp2_with fail
 refine HC5.out.mono ?_
 rintro x w7 ⟨rfl,S7⟩
 clear HC5
 clear bc0 bc1 bc2 bc3 bc4 bf0 bf1 bf2 bf3 bf4 bb bz
 have bc0 := S7.cellH 0
 have bf0 := S7.fzH 0
 have bc1 := S7.cellH 1
 have bf1 := S7.fzH 1
 have bc2 := S7.cellH 2
 have bf2 := S7.fzH 2
 have bc3 := S7.cellH 3
 have bf3 := S7.fzH 3
 have bc4 := S7.cellH 4
 have bf4 := S7.fzH 4
 have bb := S7.bad
 have bz := S7.fz 1
 simp at bc0 bc1 bc2 bc3 bc4
 have S8 := S7.setH (by decide) 2 (.int .u32 (e : Int))
 simp only [List.setIfInBounds_toArray,List.set_cons_zero,List.set_cons_succ] at S8
 have g1 := S8.bad
 have g2 := S8.fz 1
 have S9 := S8.setBad false
 have x3 := S9.cellH 0
 simp only [List.getElem?_toArray,List.getElem?_cons_zero] at x3
 have HC6 : Hid (Calls _ _ _ _ _) := HP3.out _ _ S9
 clear S7 S8 S9 HP3
 go_wp2_with fail
 refine HC6.out.mono ?_
 rintro x w9 ⟨rfl,S9⟩
 clear HC6 g1 g2 x3
 clear bc0 bc1 bc2 bc3 bc4 bf0 bf1 bf2 bf3 bf4 bb bz
 have bc0 := S9.cellH 0
 have bf0 := S9.fzH 0
 have bc1 := S9.cellH 1
 have bf1 := S9.fzH 1
 have bc2 := S9.cellH 2
 have bf2 := S9.fzH 2
 have bc3 := S9.cellH 3
 have bf3 := S9.fzH 3
 have bc4 := S9.cellH 4
 have bf4 := S9.fzH 4
 have bb := S9.bad
 have bz := S9.fz 1
 simp at bc0 bc1 bc2 bc3 bc4
 have S10 := S9.setH (by decide) 3 (.int .u32 (tk : Int))
 simp only [List.setIfInBounds_toArray,List.set_cons_zero,List.set_cons_succ] at S10
 have k0 := S10.cellH 0
 simp only [List.getElem?_toArray,List.getElem?_cons_zero] at k0
 have HCX : Hid (Calls _ _ _ _ _) := HCD.out _ _ S10
 clear S9 S10 HCD
 go_wp2_with fail
 refine HCX.out.mono ?_
 rintro x w10 ⟨rfl,S10⟩
 clear HCX k0
 clear bc0 bc1 bc2 bc3 bc4 bf0 bf1 bf2 bf3 bf4 bb bz
 have bc0 := S10.cellH 0
 have bf0 := S10.fzH 0
 have bc1 := S10.cellH 1
 have bf1 := S10.fzH 1
 have bc2 := S10.cellH 2
 have bf2 := S10.fzH 2
 have bc3 := S10.cellH 3
 have bf3 := S10.fzH 3
 have bc4 := S10.cellH 4
 have bf4 := S10.fzH 4
 have bb := S10.bad
 have bz := S10.fz 1
 simp at bc0 bc1 bc2 bc3 bc4
 have Sb := S10.setBad false
 have Sc := Sb.setH (by decide) 4 (.int .u32 (s : Int))
 simp only [List.setIfInBounds_toArray,List.set_cons_zero,List.set_cons_succ] at Sc
 have g3 := Sb.cellH 3
 have g4 := Sb.fzH 4
 have g1 := Sc.bad
 have k0 := Sc.cellH 0
 have k1 := Sc.cellH 1
 have k2 := Sc.cellH 2
 have k3 := Sc.cellH 3
 have k4 := Sc.cellH 4
 simp only [List.getElem?_toArray,List.getElem?_cons_zero,List.getElem?_cons_succ] at g3 k0 k1 k2 k3 k4
 have HC7 : Hid (Calls _ _ _ _ _) := HCK.out ((w10.setCell ⟨b,1,none⟩ (.bool false)).setCell ⟨b3,4,none⟩ (.int .u32 (s : Int)))
 have HS10 : Hid (SrcO w0 _ b R false _) := Sc
 clear S10 Sb Sc HCK
 go_wp2_with fail
 refine HC7.out.mono ?_
 rintro x w11 ⟨rfl,hf11⟩
 have S11 := HS10.out.quiet hf11
 clear HC7 hf11 HS10 g1 g3 g4 k0 k1 k2 k3 k4
 clear bc0 bc1 bc2 bc3 bc4 bf0 bf1 bf2 bf3 bf4 bb bz
 have bc0 := S11.cellH 0
 have bf0 := S11.fzH 0
 have bc1 := S11.cellH 1
 have bf1 := S11.fzH 1
 have bc2 := S11.cellH 2
 have bf2 := S11.fzH 2
 have bc3 := S11.cellH 3
 have bf3 := S11.fzH 3
 have bc4 := S11.cellH 4
 have bf4 := S11.fzH 4
 have bb := S11.bad
 have bz := S11.fz 1
 simp at bc0 bc1 bc2 bc3 bc4
 have S11b := S11.perm (List.Perm.swap _ _ l)
 have cc0 := S11b.cellH 0
 have cf0 := S11b.fzH 0
 have cc1 := S11b.cellH 1
 have cf1 := S11b.fzH 1
 have cc2 := S11b.cellH 2
 have cf2 := S11b.fzH 2
 have cc3 := S11b.cellH 3
 have cf3 := S11b.fzH 3
 have cc4 := S11b.cellH 4
 have cf4 := S11b.fzH 4
 simp at cc0 cc1 cc2 cc3 cc4
 have mb := S11b.neH (by decide)
 obtain ⟨mb1,mb2⟩ := mb
 clear S11b
 have g1 := S11.bad
 have g2 := S11.fz 1
 have S12 := S11.setBad false
 have k0 := S12.cellH 0
 have k1 := S12.cellH 1
 have k2 := S12.cellH 2
 have k3 := S12.cellH 3
 have k4 := S12.cellH 4
 have S13 := S12.perm (List.Perm.swap _ _ l)
 have z0 := S13.fzH 0
 have z1 := S13.fzH 1
 have z2 := S13.fzH 2
 have z3 := S13.fzH 3
 have z4 := S13.fzH 4
 have j0 := S13.cellH 0
 have j1 := S13.cellH 1
 have j2 := S13.cellH 2
 have j3 := S13.cellH 3
 have j4 := S13.cellH 4
 simp at k0 k1 k2 k3 k4 j0 j1 j2 j3 j4
 have S14 := ((((S13.setH (by decide) 0 (.int .u8 2)).setH (by decide) 1 (.int .u8 (c : Int))).setH (by decide) 2 (.int .u32 (e : Int))).setH (by decide) 3 (.int .u32 (tk : Int))).setH (by decide) 4 (.int .u32 (s : Int))
 simp only [List.setIfInBounds_toArray,List.set_cons_zero,List.set_cons_succ] at S14
 have HS14 : Hid (SrcO w0 _ b R false _) := S14
 clear S11 S12 S13 S14
 go_wp2
 (try simp only [Exit.inBlock,Exit.then])
 refine bodyPost_ret (v := .agg #[.int .u8 2,.int .u8 (c : Int),.int .u32 (e : Int),.int .u32 (tk : Int),.int .u32 (s : Int)]) ?_ rfl ⟨rfl,HS14.out.tail.tail⟩
 rw [results_cell1L rfl]
 have r0 := HS14.out.cellH 0
 have r1 := HS14.out.cellH 1
 have r2 := HS14.out.cellH 2
 have r3 := HS14.out.cellH 3
 have r4 := HS14.out.cellH 4
 simp at r0 r1 r2 r3 r4
 go_simp
theorem row_bytes {w : World} {base n : Nat} {v : Value} {P : List Nat} (h : w.ownsRow base 5 1 v n (vrow P)) (hn : P.length = n) : ∃ ao cap,v = .slice ao n cap ∧ BytesAt w ao P := by
 obtain ⟨ao,cap,rfl⟩ := row_any h
 refine ⟨ao,cap,rfl,?_⟩
 rcases Nat.eq_zero_or_pos n with h0 | h0
 ·exact .inl (List.eq_nil_of_length_eq_zero (by omega))
 ·obtain ⟨g,cp,hv,_⟩ := row_shape h h0
  obtain ⟨rfl,_,rfl⟩ := Value.slice.inj hv
  refine .inr ⟨g,0,rfl,fun j x hx => ?_⟩
  have hj := (List.getElem?_eq_some_iff.1 hx).1
  rw [Nat.zero_add,h.cellAt j (by omega),getElem?_vrow,hx]; rfl
theorem rpeek_ok (w0 w : World) (l : List Thing) (h : Own w0 w l) (ao : Option Addr) (n cap : Nat) (P : List Nat) (k c e tk s : Nat) (hk : k = 1 ∨ k = 2) (hR : Right k c e tk s) (L R : List Bool) (hL : L = headB k c e tk s ++ R) (hP : P = frm (pack L)) (hlen : (pack L).length ≤ 4096) (hin : In w ao n cap P) :
  Calls Tryz.prog 13 #[.slice ao n cap] w fun x w' => x = .returned (.tuple #[.agg (hvs k c e tk s),.int .i64 0]) ∧ Own w0 w' l := by
 have h1 := h.allocC #[.int .u8 0,.int .u8 0,.int .u32 0,.int .u32 0,.int .u32 0] 29
 obtain ⟨d,hd⟩ : ∃ d,d = (pack L).length := ⟨_,rfl⟩
 have hfo := frm_opens (pack L) d hd.symm
 rw [← hP] at hfo
 have hn : n = d + 4 := by
  have := congrArg List.length hP
  unfold frm at this
  rw [List.length_append,← hd,hin.eqn] at this
  have h4 : (le4 (crc (pack L))).length = 4 := rfl
  omega
 subst hn
 have hop := ropen_ok (w.alloc (.cells #[.int .u8 0,.int .u8 0,.int .u32 0,.int .u32 0,.int .u32 0] 29)) ao cap d P (hin.quiet ((Fr.refl _ _).alloc _)) (by omega) hfo.1
 rw [hfo.2] at hop
 have HOP : Hid (Calls _ _ _ _ _) := hop
 have HD : Hid (d = (pack L).length ∧ d ≤ 4096) := ⟨hd,by omega⟩
 have HH : Hid (∀ W b m Z,SrcO w0 W b (L ++ Z) false m → (L ++ Z).length ≤ 100000 → Calls Tryz.prog 43 #[.pointer (some ⟨b,0,none⟩)] W fun x w' => x = .returned (.agg (hvs k c e tk s)) ∧ SrcO w0 w' b (R ++ Z) false m) := fun W b m Z hW hZ => by
  have e1 : L ++ Z = headB k c e tk s ++ (R ++ Z) := by rw [hL,List.append_assoc]
  rcases hk with rfl | rfl
  ·exact shead1 w0 W m b c e tk s hR _ _ e1 hZ hW
  ·exact shead2 w0 W m b c e tk s hR _ _ e1 hZ hW
 have H1 : Hid (Own w0 _ _) := h1
 clear h h1 hop hfo hd hlen hin hP hL hk hR
 go_enter Tryz.func13,Tryz.ntmps13
 go_wp2_with fail
 refine HOP.out.mono ?_
 rintro x w2 ⟨v,rfl,hrow,hf2⟩
 have h2 := H1.out.quiet hf2
 obtain ⟨a2,c2,rfl,hba⟩ := row_bytes hrow HD.out.1.symm
 have HBI : Hid (Calls _ _ _ _ _) := rbits_any w2 a2 c2 d (pack L) hba HD.out.1.symm (pack_byte _) (by have := HD.out.2; omega)
 have H2 : Hid (Own w0 _ _) := h2
 clear HOP H1 hf2 h2 hrow hba
 generalize w.heap.size = b2 at *
 go_wp2_with fail
 refine HBI.out.mono ?_
 rintro x w3 ⟨vb,rfl,hbo,hf3⟩
 have h3 := H2.out.quiet hf3
 have hbs := hbo.bs
 have hlz : (bitsB (pack L)).length ≤ 100000 := by rw [length_bitsB]; have := HD.out; omega
 rw [bitsB_pack] at hbs hlz
 generalize List.replicate (8 * nb L.length - L.length) false = Z at *
 obtain ⟨a3,c3,rfl⟩ := hbs.shape
 have S3 : SrcO w0 (w3.alloc (.cells #[.slice a3 (L ++ Z).length c3,.bool false] 95)) w3.heap.size (L ++ Z) false _ := ⟨_,h3.allocC _ _,hbs.quiet ((Fr.refl _ _).alloc _)⟩
 have HHC : Hid (Calls _ _ _ _ _) := HH.out _ _ _ Z S3 hlz
 clear HBI H2 hf3 h3 hbo hbs hlz S3 HH
 generalize (L ++ Z).length = lz at *
 go_wp2_with fail
 refine HHC.out.mono ?_
 rintro x w4 ⟨rfl,S4⟩
 obtain ⟨v4,h4,-⟩ := S4
 generalize w3.heap.size = b at *
 unfold hvs
 have h5 := h4.allocC #[.int .u8 (k : Int),.int .u8 (c : Int),.int .u32 (e : Int),.int .u32 (tk : Int),.int .u32 (s : Int)] 29
 have q1 := h5.two.cell 1
 have j0 := h5.cell 0
 have j1 := h5.cell 1
 have j2 := h5.cell 2
 have j3 := h5.cell 3
 have j4 := h5.cell 4
 have z0 := h5.three.froz 0
 have z1 := h5.three.froz 1
 have z2 := h5.three.froz 2
 have z3 := h5.three.froz 3
 have z4 := h5.three.froz 4
 have x0 := h5.three.cell 0
 have x1 := h5.three.cell 1
 have x2 := h5.three.cell 2
 have x3 := h5.three.cell 3
 have x4 := h5.three.cell 4
 simp at q1 j0 j1 j2 j3 j4 x0 x1 x2 x3 x4
 have h6 := ((((h5.three.setC 0 (.int .u8 (k : Int))).setC 1 (.int .u8 (c : Int))).setC 2 (.int .u32 (e : Int))).setC 3 (.int .u32 (tk : Int))).setC 4 (.int .u32 (s : Int))
 simp only [List.setIfInBounds_toArray,List.set_cons_zero,List.set_cons_succ] at h6
 have H6 : Hid (Own w0 _ _) := h6
 clear h4 h5 h6 HHC
 go_wp2
 (try simp only [Exit.inBlock,Exit.then])
 refine bodyPost_ret (v := .tuple #[.agg #[.int .u8 (k : Int),.int .u8 (c : Int),.int .u32 (e : Int),.int .u32 (tk : Int),.int .u32 (s : Int)],.int .i64 0]) ?_ rfl ⟨rfl,H6.out.tail.tail.tail⟩
 rw [results_cell_tmp rfl]
 have r0 := H6.out.cell 0
 have r1 := H6.out.cell 1
 have r2 := H6.out.cell 2
 have r3 := H6.out.cell 3
 have r4 := H6.out.cell 4
 simp at r0 r1 r2 r3 r4
 go_simp
theorem kind_ok (w0 w : World) (l : List Thing) (h : Own w0 w l) (ao : Option Addr) (n cap : Nat) (P : List Nat) (k c e tk s : Nat) (hk : k = 1 ∨ k = 2) (hR : Right k c e tk s) (L R : List Bool) (hL : L = headB k c e tk s ++ R) (hP : P = frm (pack L)) (hlen : (pack L).length ≤ 4096) (hin : In w ao n cap P) :
  Calls Tryz.prog 33 #[.slice ao n cap] w fun x w' => x = .returned (.int .u8 (k : Int)) ∧ Own w0 w' l := by
 have HP : Hid (Calls _ _ _ _ _) := rpeek_ok w0 w l h ao n cap P k c e tk s hk hR L R hL hP hlen hin
 clear h hk hR hL hP hlen hin
 go_enter Tryz.func33,Tryz.ntmps33
 go_wp2_with fail
 refine HP.out.mono ?_
 rintro x w1 ⟨rfl,h1⟩
 unfold hvs
 have h2 := h1.allocC #[.int .u8 (k : Int),.int .u8 (c : Int),.int .u32 (e : Int),.int .u32 (tk : Int),.int .u32 (s : Int)] 29
 have j0 := h2.cell 0
 simp at j0
 have H2 : Hid (Own w0 _ _) := h2.tail
 clear h1 h2 HP
 go_wp2
 go_ret
 exact ⟨rfl,H2.out⟩
end Go.Proofs.YtgifeckbflkkpaaGreatDoor
