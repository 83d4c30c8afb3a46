/-
  An order that is refused, of whatever kind, leaves all as it is but for the tick: WorldRoom returns true, whatever its argument, where the table of the components lies as the program's text lays it, and changes nothing that was there.
-/
import Derived.Test.YtflmgilmbppieaaGreatDoorWqgh
import Derived.Test.YtflmgilmbppieaaGreatDoorQih
import Derived.OpenShut
import Derived.SevenTiedAt
namespace Go.Proofs.YtflmgilmbppieaaGreatDoor
open Go.ChangeShapes Go.WideShapes Go.ChangeAt Go.RowKit Go.Maps
set_option linter.unusedVariables false
set_option maxRecDepth 100000

set_option maxHeartbeats 16000000 in
theorem worldRoom_fr (w : World) (ht : Tab w) (d id k : Nat) (hd : d < 256) (hid : id < 4294967296) (hk : k < 256) (C : List Cp) (ao : Option Addr) (len cap : Nat) (hl : C.length = len) (hlc : len ≤ cap) (hcm : cap ≤ maxLen) (hc : Cs w ao C) (hCk : ∀ q ∈ C, q.k < 256) :
    Calls Tryz.prog 5 #[.agg #[.int .u8 (d : Int), .int .u32 (id : Int), .int .u8 (k : Int), .slice ao len cap]] w fun e w' => e = .returned (.bool true) ∧ Fr Nobody w w' := by
  unfold maxLen at hcm
  have HT : Hid (Tab w) := ht
  obtain ⟨n, hn⟩ : ∃ n, n = min len 20 := ⟨_, rfl⟩
  have hmin : min (len : Int) 20 = (n : Int) := by omega
  have hmin2 : (if 20 < (len : Int) then 20 else (len : Int)) = (n : Int) := by split <;> omega
  have hn1 : n ≤ 20 := by omega
  have hn2 : n ≤ len := by omega
  have hn3 : n ≤ cap := by omega
  obtain ⟨o, ho⟩ : ∃ o : OrdE, o = ⟨d, id, k, C.take n, ao, cap⟩ := ⟨_, rfl⟩
  have hol : o.C.length = n := by rw [ho]; simp; omega
  have hoi : o.In := by rw [ho]; exact ⟨hd, hid, hk, fun q hq => hCk q (List.mem_of_mem_take hq), by simp; omega⟩
  have hag : o.ag = .agg #[.int .u8 (d : Int), .int .u32 (id : Int), .int .u8 (k : Int), .slice ao n cap] := by
    unfold OrdE.ag; rw [hol, ho]
  have HCS : Hid (∀ W, Fr Nobody w W → Cs W o.ao o.C) := fun W hW => by rw [ho]; exact (hc.quiet hW).take n
  have HOI : Hid o.In := hoi
  have HAG : Hid (o.ag = .agg #[.int .u8 (d : Int), .int .u32 (id : Int), .int .u8 (k : Int), .slice ao n cap]) := hag
  have H0 : Hid (Own w _ _) := (Own.start w).allocC #[.int .u8 (d : Int), .int .u32 (id : Int), .int .u8 (k : Int), .slice ao len cap] 41
  have HAW : Hid (Calls _ _ _ _ _) := awake15 (w.alloc (.cells #[.int .u8 (d : Int), .int .u32 (id : Int), .int .u8 (k : Int), .slice ao len cap] 41)) (ht.quiet ((Fr.refl _ _).alloc _))
  clear hn hol hoi hag ho hc hCk hl ht
  obtain ⟨b0, hb0⟩ : ∃ b0, w.heap.size = b0 := ⟨_, rfl⟩
  rw [hb0] at H0
  go_enter Tryz.func5, Tryz.ntmps5
  go_wp2_with fail
  refine HAW.out.mono ?_
  rintro e w1 ⟨rfl, hf⟩
  have HC : Hid (Calls _ _ _ _ _) := wnew w w1 _ 1 1 0 (H0.out.quiet hf) (by decide) (by decide) (by decide) (by decide)
  clear hf HAW H0 hb0
  go_wp2_with fail
  refine HC.out.mono ?_
  rintro e w2 ⟨ba, rfl, hO⟩
  have hR := (hO.litRow #[.int .u8 4, .int .i32 0, .int .i32 0, .int .i32 0] 46 4 1 (by decide) rfl)
  have HP : Hid (Calls _ _ _ _ _) := wpush w _ _ ba 0 0 _ HT.out hR.two ⟨1, 0, 0, tgC, some ⟨w2.heap.size, 0, none⟩, 1⟩ (tg_in _ _) (fun w' hw' => Own.rcs hw' rfl)
  have hpc : pcode [] ⟨1, 0, 0, tgC, some ⟨w2.heap.size, 0, none⟩, 1⟩ = 0 := by unfold pcode; rw [if_neg (by rw [tg_ck]; decide), if_neg (by decide)]
  simp only [hpc] at HP
  have hag2 : OrdE.ag ⟨1, 0, 0, tgC, some ⟨w2.heap.size, 0, none⟩, 1⟩ = .agg #[.int .u8 1, .int .u32 0, .int .u8 0, .slice (some ⟨w2.heap.size, 0, none⟩) 1 1] := rfl
  rw [hag2] at HP
  clear HC hO hR hpc hag2
  go_wp2_with fail
  refine HP.out.mono ?_
  rintro e w3 ⟨E', rfl, hE, hO⟩
  have hE2 : ∃ a c, E' = [⟨1, 0, 0, tgC, a, c⟩] := by
    unfold PushTo at hE
    rw [if_pos ⟨tg_ck _ _, by decide⟩] at hE
    obtain ⟨a, c, rfl⟩ := hE
    exact ⟨a, c, rfl⟩
  obtain ⟨a, c, rfl⟩ := hE2
  have HS : Hid (Calls _ _ _ _ _) := wstep w w3 _ ba 0 0 ⟨0, Sto.new 1 1, [⟨1, 0, 0, tgC, a, c⟩], (fun _ _ => none), []⟩ HT.out (Sto.new_ok 1 1 (by decide) (by decide) (by decide) (by decide)) (by decide) (by decide) (by show (0 : Nat) < _; decide) (by show (1 : Nat) ≤ _; decide) (fun o ho => by
    have : o = ⟨1, 0, 0, tgC, a, c⟩ := by simpa using ho
    rw [this]; exact tg_in a c) hO
  simp only [Wd.next, tg_runs, tg_sys, List.length_cons, List.length_nil] at HS
  generalize (runs stq (Sto.new 1 1, 0) [⟨1, 0, 0, tgC, a, c⟩]).1 = RR at *
  generalize mapOf (fun _ _ => none) (0 + 1) (allS tgS) = S1 at *
  clear HP hO hE
  go_wp2_with fail
  refine HS.out.mono ?_
  rintro e w4 ⟨ra, rc, K1, n1, P1, rfl, hK1, hn1, _, _, hO⟩
  have HLA : Hid (Calls _ _ _ _ _) := wlistT w w4 _ ba K1 n1 _ tg_ok (by omega) hO.two
  clear HS hO
  go_wp2_with fail
  refine HLA.out.mono ?_
  rintro e w5 ⟨la, lc2, M, rfl, hM, hO⟩
  obtain ⟨hl1, hx1⟩ := ents_ok tg_ok hM
  have HTW : Hid (Calls _ _ _ _ _) := twins_ents w w5 _ la lc2 M (by omega) (fun x hx => Nat.le_trans (hx1 x hx).2.1 (by decide)) hO
  have HM : Hid (M.map (fun x => (x.id, x.C)) = tgS.S.list.map (fun id => (id, tgS.cps id))) := hM
  clear HLA hO hM hl1 hx1
  generalize M.length = ml at *
  go_wp2_with fail
  refine HTW.out.mono ?_
  rintro e w6 ⟨ta, tc, M2, rfl, hM2, hO⟩
  have HM2 : Hid (M2.map (fun x => (x.id, x.C)) = tgS.S.list.map (fun id => (id, tgS.cps id))) := by show _ = _; rw [hM2]; exact HM.out
  have hO2 : Own w w6 [Cells b0 #[.int .u8 (d : Int), .int .u32 (id : Int), .int .u8 (k : Int), .slice ao len cap] 41, WdT ba ⟨0 + 1, tgS, [], S1, P1⟩ K1 n1, EntsT ta tc M2] := hO.sel 6 [5, 2, 0] (by decide)
  obtain ⟨tl, htl⟩ : ∃ tl, M2.length = tl := ⟨_, rfl⟩
  have HTL : Hid (M2.length = tl) := htl
  rw [htl]
  have q3 := hO2.cell 3
  have z3 := hO2.froz 3
  simp at q3
  have H7 : Hid (Own w _ [Cells b0 #[.int .u8 (d : Int), .int .u32 (id : Int), .int .u8 (k : Int), .slice ao n cap] 41, WdT ba ⟨0 + 1, tgS, [], S1, P1⟩ K1 n1, EntsT ta tc M2]) := hO2.setC 3 (.slice ao n cap)
  have HRN : Hid (Calls _ _ _ _ _) := rnewS w _ _ H7.out 1 1 (by decide) (by decide) (by decide) (by decide)
  clear HTW hO hO2 hM2 htl HM
  go_wp2_with fail
  refine HRN.out.mono ?_
  rintro e w8 ⟨bx, rfl, hO⟩
  have hR := (hO.litRow #[.int .u8 4, .int .i32 0, .int .i32 0, .int .i32 0] 46 4 1 (by decide) rfl)
  have HRS : Hid (Calls _ _ _ _ _) := rspawnC w _ _ bx _ 0 hR.two (Sto.new_ok 1 1 (by decide) (by decide) (by decide) (by decide)) _ 1 1 tgC rfl (fun w' hw' => Own.rcs hw' rfl) (by intro q hq; simp [tgC] at hq; subst hq; decide) (by decide) (by decide)
  have htg : ((Sto.new 1 1).spawn tgC).2.2 = tgS := rfl
  rw [htg] at HRS
  generalize ((Sto.new 1 1).spawn tgC).1 = sid at *
  generalize ((Sto.new 1 1).spawn tgC).2.1 = sco at *
  clear HRN hO hR q3 z3 H7 htg
  go_wp2_with fail
  refine HRS.out.mono ?_
  rintro e w9 ⟨rfl, hO⟩
  have hO1 : Own w w9 [Cells b0 #[.int .u8 (d : Int), .int .u32 (id : Int), .int .u8 (k : Int), .slice ao n cap] 41, RSto bx tgS (0 + 1), WdT ba ⟨0 + 1, tgS, [], S1, P1⟩ K1 n1, EntsT ta tc M2] := hO.sel 5 [2, 0, 3, 4] (by decide)
  have p0 := hO1.cell 0
  have p1 := hO1.cell 1
  have p2 := hO1.cell 2
  have p3 := hO1.cell 3
  simp at p0 p1 p2 p3
  have HDO : Hid (Calls _ _ _ _ _) := rdo_any w w9 _ bx (tgS, 0 + 1) hO1.two tg_ok (by decide) o HOI.out (fun w' hw' => HCS.out _ hw'.fr) (fun hb => rdo_bad w w9 _ _ _ hO1.two o HOI.out (fun w' hw' => HCS.out _ hw'.fr) hb)
  rw [HAG.out] at HDO
  have hcode : o.ck ≠ 0 → (stq (tgS, 0 + 1) o).1.1 = (o.ck : Int) := fun h => by unfold stq; rw [if_pos h]
  have HSK : Hid (∀ K a c, (stq (tgS, K) { o with ao := a, cap := c }).1 = (stq (tgS, 0 + 1) o).1) := fun K a c => (stq_K tgS K (0 + 1) { o with ao := a, cap := c }).1
  have HSB : Hid (∀ K a c, (stq (tgS, 0 + 1) o).1.1 ≠ 0 → (stq (tgS, K) { o with ao := a, cap := c }).2.1 = tgS) := fun K a c h => stq_bad (s := (tgS, K)) (by rw [(stq_K tgS K (0 + 1) { o with ao := a, cap := c }).1]; exact h)
  clear HRS hO hO1
  generalize hst : stq (tgS, 0 + 1) o = st at *
  obtain ⟨⟨er, rid⟩, σx, Kx⟩ := st
  simp only at hcode HSK HSB HDO
  unfold rag at HDO
  simp only at HDO
  clear hst
  go_wp2_with fail
  refine HDO.out.mono ?_
  rintro e w10 ⟨rfl, hO⟩
  have hA := hO.allocC #[.int .i64 er, .int .u32 (rid : Int)] 78
  have hO1 : Own w _ [Cells b0 #[.int .u8 (d : Int), .int .u32 (id : Int), .int .u8 (k : Int), .slice ao n cap] 41, Cells w10.heap.size #[.int .i64 er, .int .u32 (rid : Int)] 78, WdT ba ⟨0 + 1, tgS, [], S1, P1⟩ K1 n1, EntsT ta tc M2] := hA.sel 5 [2, 0, 3, 4] (by decide)
  have p0 := hO1.cell 0
  have p1 := hO1.cell 1
  have p2 := hO1.cell 2
  have p3 := hO1.cell 3
  simp at p0 p1 p2 p3
  have n0 : w10.heap.size ≠ b0 := by have := (hO.two.lt); omega
  have HP : Hid (Calls _ _ _ _ _) := wpush w _ _ ba K1 n1 _ HT.out hO1.three o HOI.out (fun w' hw' => HCS.out _ hw'.fr)
  rw [HAG.out] at HP
  simp only at HP
  obtain ⟨br, hbr⟩ : ∃ br, w10.heap.size = br := ⟨_, rfl⟩
  have HBR : Hid (w10.heap.size = br) := hbr
  clear HDO hO hA hO1
  by_cases hck : o.ck = 0
  · have hpc : pcode [] o = 0 := by unfold pcode; rw [if_neg (by omega), if_neg (by decide)]
    rw [hpc] at HP
    have HCK : Hid (o.ck = 0) := hck
    clear hpc hck hcode
    go_wp2_with fail
    refine HP.out.mono ?_
    rintro e w11 ⟨E', rfl, hE, hO⟩
    have hE2 : ∃ a c, E' = [{ o with ao := a, cap := c }] := by
      unfold PushTo at hE
      rw [if_pos ⟨HCK.out, by decide⟩] at hE
      obtain ⟨a, c, rfl⟩ := hE
      exact ⟨a, c, rfl⟩
    obtain ⟨a2, c2, rfl⟩ := hE2
    have HS : Hid (Calls _ _ _ _ _) := wstep w w11 _ ba K1 n1 ⟨0 + 1, tgS, [{ o with ao := a2, cap := c2 }], S1, P1⟩ HT.out tg_ok (by omega) (by omega) (by show (1 : Nat) < _; decide) (by show (1 : Nat) ≤ _; decide) (fun x hx => by
      have : x = { o with ao := a2, cap := c2 } := by simpa using hx
      rw [this]; exact ⟨HOI.out.d, HOI.out.id, HOI.out.k, HOI.out.C, HOI.out.len⟩) hO
    have hr1 : (runs stq (tgS, K1) [{ o with ao := a2, cap := c2 }]).1 = [(er, rid)] := by
      show [(stq (tgS, K1) { o with ao := a2, cap := c2 }).1] = _
      rw [HSK.out]
    have hr2 : (runs stq (tgS, K1) [{ o with ao := a2, cap := c2 }]).2.1 = (stq (tgS, K1) { o with ao := a2, cap := c2 }).2.1 := rfl
    have HQB : Hid (er ≠ 0 → (stq (tgS, K1) { o with ao := a2, cap := c2 }).2.1 = tgS) := fun h => HSB.out K1 a2 c2 h
    simp only [Wd.next, hr1, hr2, List.length_cons, List.length_nil] at HS
    generalize (stq (tgS, K1) { o with ao := a2, cap := c2 }).2.1 = σ2 at *
    clear HP hO hE hr1 hr2 HSK HSB
    go_wp2_with fail
    refine HS.out.mono ?_
    rintro e w12 ⟨ra, rc2, K2, n2, P2, rfl, hK2, hn2, hok2, _, hO⟩
    simp only [Nat.zero_add] at hO hK2 ⊢
    have HOK : Hid (σ2.sys.Ok) := hok2
    have hO1 : Own w w12 [Cells br #[.int .i64 er, .int .u32 (rid : Int)] 78, Row 78 2 (.slice ra 1 rc2) 1 (cat rcel [(er, rid)]), WdT ba ⟨1 + 1, σ2.sys, [], mapOf S1 (1 + 1) (allS σ2.sys), P2⟩ K2 n2, EntsT ta tc M2] := by
      rw [← HBR.out]
      exact hO.sel 5 [3, 0, 1, 4] (by decide)
    have e0 := hO1.cell 0
    have e1 := hO1.cell 1
    simp at e0 e1
    have hL := (hO1.litRow #[.int .i64 er, .int .u32 (rid : Int)] 78 2 1 (by decide) rfl)
    have HSR : Hid (Calls _ _ _ _ _) := same_res _ ra (some ⟨w12.heap.size, 0, none⟩) 1 rc2 1 [(er, rid)] (Own.rs hL.three rfl) (Own.rs hL rfl) rfl (by decide)
    have HL : Hid (Own w _ _) := hL
    have l0 := hL.two.cell 0
    have l1 := hL.two.cell 1
    simp at l0 l1
    clear HS hO hok2 hO1 hL HBR
    go_wp2_with fail
    refine HSR.out.mono ?_
    rintro e w13 ⟨rfl, hf⟩
    have hO := HL.out.quiet hf
    have f0 := hO.two.cell 0
    simp at f0
    have H13 : Hid (Own w w13 [WdT ba ⟨1 + 1, σ2.sys, [], mapOf S1 (1 + 1) (allS σ2.sys), P2⟩ K2 n2, EntsT ta tc M2]) := hO.sel 5 [3, 4] (by decide)
    clear HSR HL hf hO e0 e1 l0 l1
    by_cases her : er = 0
    · have her1 : (er == 0) = true := by simp [her]
      have her2 : (er != 0) = false := by simp [her]
      clear her
      go_wp2
      go_ret
      exact ⟨rfl, H13.out.fr⟩
    · have her1 : (er == 0) = false := by simp [her]
      have her2 : (er != 0) = true := by simp [her]
      have hσ2 := HQB.out her
      rw [hσ2, tg_sys] at H13 HOK
      have HLB : Hid (Calls _ _ _ _ _) := wlistT w w13 _ ba K2 n2 _ HOK.out (by omega) H13.out
      clear her hσ2
      go_wp2_with fail
      refine HLB.out.mono ?_
      rintro e w14 ⟨la, lc3, M3, rfl, hM3, hO⟩
      obtain ⟨hl1, hx1⟩ := ents_ok tg_ok hM3
      have HSE : Hid (Calls _ _ _ _ _) := same_ents w w14 _ la ta lc3 tc M3 M2 (by rw [HM2.out]; exact hM3) (by omega) (fun x hx => Nat.le_trans (hx1 x hx).2.1 (by decide)) (hO.sel 3 [0, 2] (by decide))
      rw [HTL.out] at HSE
      clear HLB hO hM3 hl1 hx1
      generalize M3.length = ml3 at *
      go_wp2_with fail
      refine HSE.out.mono ?_
      rintro e w15 ⟨rfl, hO⟩
      have HF : Hid (Fr Nobody w w15) := hO.fr
      clear HSE hO
      go_wp2
      go_ret
      exact ⟨rfl, HF.out⟩
  · have hpc : pcode [] o = (o.ck : Int) := by unfold pcode; rw [if_pos hck]
    rw [hpc, ← hcode hck] at HP
    have her : er ≠ 0 := by rw [hcode hck]; omega
    have her1 : (er == 0) = false := by simp [her]
    have her2 : (er != 0) = true := by simp [her]
    have HCK : Hid (o.ck ≠ 0) := hck
    clear hpc hck hcode her
    go_wp2_with fail
    refine HP.out.mono ?_
    rintro e w11 ⟨E', rfl, hE, hO⟩
    have hE2 : E' = [] := by
      unfold PushTo at hE
      rw [if_neg (fun h => HCK.out h.1)] at hE
      exact hE
    subst hE2
    have hO1 : Own w w11 [Cells br #[.int .i64 er, .int .u32 (rid : Int)] 78, WdT ba ⟨0 + 1, tgS, [], S1, P1⟩ K1 n1] := by
      rw [← HBR.out]
      exact hO.sel 4 [2, 0] (by decide)
    have e0 := hO1.cell 0
    simp at e0
    have HPE : Hid (Calls _ _ _ _ _) := wpending w w11 _ ba K1 n1 _ hO1.two
    have HF : Hid (Fr Nobody w w11) := hO1.fr
    clear HP hO hE hO1
    go_wp2_with fail
    refine HPE.out.mono ?_
    rintro e w12 ⟨rfl, rfl⟩
    go_wp2
    go_ret
    exact ⟨rfl, HF.out⟩
theorem worldRoom_walk (w : World) (ht : Tab w) (o : OrdE) (hw : o.d < 256 ∧ o.id < 4294967296 ∧ o.k < 256 ∧ IsComps w o.ao o.C.length o.cap o.C) :
    Calls Tryz.prog 5 #[o.ag] w fun e w' => e = .returned (.bool true) ∧ Below w.heap.size w w' := by
  obtain ⟨h1, h2, h3, h4⟩ := hw
  refine (worldRoom_fr w ht o.d o.id o.k h1 h2 h3 o.C o.ao o.C.length o.cap rfl h4.2.1 h4.2.2.1 h4.cs.1 h4.cs.2).mono ?_
  rintro e w' ⟨rfl, hf⟩
  exact ⟨rfl, hf.below (Nat.le_refl _) (fun _ _ h => h)⟩
theorem laidOut : laidOutB Tryz.prog = true := by kernel_rfl

set_option maxRecDepth 100000 in
theorem worldRoom_lifted (os : Os) (started : os.Started) (H : Type) (enc : TypeId × Value → H) :
    ReturnsInHanded {} Tryz.checked os 5 .any (fun w args => (Rows.worldRoomSpec.pre enc Tryz.prog Tryz.f5 [] false w args ∧ laidMetH Tryz.prog laid1 w) ∧ sizedMet enc Tryz.prog Tryz.f5 (OpenSpec.ofChange Rows.worldRoomSpec) false w args) (Rows.worldRoomSpec.post enc Tryz.prog Tryz.f5 false true false false) := by
  refine returnsInHanded_of_change_and (C := Tryz.checked) (X := fun w _ => laidMetH Tryz.prog laid1 w) (fun _ _ _ hh h => h.of_heap hh) own started (by kernel_rfl) Tryz.func5
    (ChangeSpec.witness_shaped (enc := enc) (C := Tryz.checked) (os := os) (X := fun w _ => laidMetH Tryz.prog laid1 w) false (World.doorLaid Tryz.prog 400 os) #[.agg #[.int .u8 0, .int .u32 0, .int .u8 0, .slice none 0 0]] 8 rfl (World.shaped_of_RefB (by kernel_rfl) (by kernel_rfl)) (by kernel_rfl) (by kernel_rfl) (by kernel_rfl) (door_met os _)) ?_
  intro W base args ds gs before hval0 hW _ _ hL _
  have hval : ∀ (j : Nat) t v, Tryz.f5.params[j]? = some t → args[j]? = some v → Value.okWide Tryz.prog W .any base t v := hval0
  have hW' := hW
  obtain ⟨p, q, hA0, hV, rfl, hfz, hnd⟩ := hW
  have hA : DataW.TrodAll enc Tryz.prog W 0 (fun _ => true) true Tryz.f5.params.toList args.toList ds p := hA0
  rw [Tryz.params5] at hA hval
  obtain ⟨v0, vs0, d0, ds0, p0, q0, hargs, rfl, rfl, h0, r0⟩ := trodAll_cons hA
  obtain ⟨rfl, rfl, rfl⟩ := trodAll_nil r0
  obtain rfl : args = #[v0] := by cases args; simp_all
  obtain ⟨rfl, rfl⟩ := trodVars_none hV
  have k0 := h0
  have lt0 : ∀ x ∈ p0, x.block < W.heap.size := by obtain ⟨m, hm⟩ := k0; exact DataW.trod_lt m _ _ _ hm
  obtain ⟨z0, rfl, w0⟩ := open_order (hval 0 41 v0 rfl rfl) h0
  clear hA0 hval0
  refine (worldRoom_walk W (of_laid hL) z0 w0).mono fun e W' ⟨he, bel⟩ => ?_
  subst he
  exact ⟨_, rfl, _, _, _, [], _, [], hW', trodAll_mk1 (shut_bool Tryz.underlying4 _), (trodAll_cons_mk (Below.trod laidOut (by kernel_rfl) (of_decide_eq_true (by kernel_rfl)) k0 bel lt0) trodAll_mk0), rfl, bel.frame _, fun h => by cases h⟩

theorem worldRoom_row : Rows.WorldRoomSaid :=
  OpenClaim.holds_of_wide 5 Tryz.f5 rfl rfl rfl rfl rfl rfl rfl ⟨rfl, rfl, rfl, rfl, rfl⟩ rfl rfl rfl rfl rfl (by kernel_rfl) Tryz.func5 (by kernel_rfl)
    (of_decide_eq_true (by kernel_rfl)) (by unfold Func.isWrapper; first | (rw [if_pos (by decide +kernel)]; kernel_rfl) | (rw [if_neg (by decide +kernel)]; exact ⟨rfl, rfl⟩))
    (fun os started H enc _ => worldRoom_lifted os started H enc)

theorem worldRoom_holds : Rows.WorldRoomCardSaid :=
  Claim7.holds_tied_plain_at .later [] [.data] true (true, "a45a48472d794549e4b14cca92a05f8dfece0fb79fef83cb0bedfed76c5d7748") false
    worldRoom_row (fun _ h => by cases h) (by kernel_rfl) (fun _ h => by cases h) worldRoom_row_tie rfl ⟨rfl, rfl⟩ (by kernel_rfl) rfl
    (fun f fn hf hfn => by
      obtain rfl : f = 5 := Option.some.inj ((show Tryz.prog.funcNamed "pinnace/pinnacelaw15.WorldRoom" = some 5 by kernel_rfl).symm.trans hf) |>.symm
      obtain rfl : fn = Tryz.f5 := (Option.some.inj (Tryz.func5.symm.trans hfn)).symm
      exact ⟨by kernel_rfl, fun j t ht => by
        rw [Tryz.params5] at ht
        have hm : t ∈ [41] := by simpa using Array.mem_of_getElem? ht
        have hall : ([41].all fun u => !Tryz.prog.wantsStandIn u) = true := by kernel_rfl
        exact (show Tryz.prog.wantsStandIn t = false by simpa using List.all_eq_true.1 hall t hm)⟩)
    (by kernel_rfl)

end Go.Proofs.YtflmgilmbppieaaGreatDoor
