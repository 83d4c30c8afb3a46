/-
  Every packet has its frame, or is refused; its head is told, and all of it is read again behind the same snapshot: PacketSeals returns true, whatever its arguments of bulk at most 1048576, where the two tables (of the sum and of the components) lie as the program's text lays them, and changes nothing that was there.
-/
import Derived.Test.YtbencjopjdjepaaGreatDoorM36
import Derived.Test.YtbencjopjdjepaaGreatDoorM49
import Derived.Test.YtbencjopjdjepaaGreatDoorM40
import Derived.Test.YtbencjopjdjepaaGreatDoorM48
import Derived.Test.YtbencjopjdjepaaGreatDoorM32
import Derived.OpenShut
import Derived.SevenTiedAt
import Derived.Deep.DeepHandedRow
namespace Go.Proofs.YtbencjopjdjepaaGreatDoor
open Go.ChangeShapes Go.WideShapes Go.ChangeAt Go.RowKit
set_option linter.unusedVariables false
set_option maxRecDepth 100000

def InQ (w : World) (a : Option Addr) (n c : Nat) (Q : List EnE) : Prop := Q.length = n ∧ EntsAt w a Q ∧ EIn Q ∧ esz Q ≤ 1048576 ∧ n ≤ c ∧ c ≤ 9223372036854775807
theorem IsEnts.inQ {w : World} {a : Option Addr} {n c : Nat} {Q : List EnE} (h : IsEnts w a n c Q) (hz : esz Q ≤ 1048576) : InQ w a n c Q := ⟨h.1, h.ents.1, h.ents.2, hz, h.2.1, by have := h.2.2.1; unfold maxLen at this; omega⟩
set_option maxHeartbeats 16000000 in
theorem packetSeals_fr (w : World) (ht : Tab w) (htf : Tabf w) (k c e t s : Nat) (hI : HIn k c e t s) (a0 : Option Addr) (n0 c0 : Nat) (Q0 : List EnE) (hQ0 : InQ w a0 n0 c0 Q0) (a1 : Option Addr) (n1 c1 : Nat) (Q1 : List EnE) (hQ1 : InQ w a1 n1 c1 Q1) :
    Calls Tryz.prog 3 #[.agg #[.int .u8 (k : Int), .int .u8 (c : Int), .int .u32 (e : Int), .int .u32 (t : Int), .int .u32 (s : Int)], .slice a0 n0 c0, .slice a1 n1 c1] w fun x w' => x = .returned (.bool true) ∧ Fr Nobody w w' := by
  have hS := (Own.start w).allocC #[.int .u8 (k : Int), .int .u8 (c : Int), .int .u32 (e : Int), .int .u32 (t : Int), .int .u32 (s : Int)] 24
  have HAW : Hid (Calls _ _ _ _ _) := awake20 (w.alloc (.cells #[.int .u8 (k : Int), .int .u8 (c : Int), .int .u32 (e : Int), .int .u32 (t : Int), .int .u32 (s : Int)] 24)) (htf.quiet hS.fr)
  have HT : Hid (Tab w ∧ Tabf w) := ⟨ht, htf⟩
  have HI : Hid (HIn k c e t s) := hI
  have HQ : Hid (InQ w a0 n0 c0 Q0 ∧ InQ w a1 n1 c1 Q1) := ⟨hQ0, hQ1⟩
  have HS : Hid (Own w _ _) := hS
  clear ht htf hQ0 hQ1 hI hS
  go_enter Tryz.func3, Tryz.ntmps3
  go_wp2_with fail
  refine HAW.out.mono ?_
  rintro x w1 ⟨rfl, hf1⟩
  have h1 := HS.out.quiet hf1
  have HFW : Hid (Calls _ _ _ _ _) := few20_any w1 a0 a1 n0 n1 c0 c1 Q0 Q1 HQ.out.1.1 HQ.out.2.1 (HQ.out.1.2.1.quiet h1.fr) (HQ.out.2.2.1.quiet h1.fr) HQ.out.1.2.2.2.1 HQ.out.2.2.2.2.1
  have H1 : Hid (Own w w1 _) := h1
  clear hf1 h1 HAW HS
  generalize w.heap.size = ba at *
  by_cases h4 : (decide (esz Q0 ≤ 400) && decide (esz Q1 ≤ 400)) = true
  · rw [h4] at HFW
    have HZ : Hid (esz Q0 ≤ 400 ∧ esz Q1 ≤ 400) := by show _ ∧ _; simpa using h4
    clear h4
    go_wp2_with fail
    refine HFW.out.mono ?_
    rintro x w2 ⟨rfl, hf2⟩
    have h2 := H1.out.quiet hf2
    have HTC : Hid (Calls _ _ _ _ _) := rtwins_any w w2 _ h2 a0 n0 c0 Q0 (fun w' hw' => HQ.out.1.2.1.quiet hw'.fr) HQ.out.1.1 (by have := HZ.out.1; omega)
    clear hf2 h2 HFW H1
    go_wp2_with fail
    refine HTC.out.mono ?_
    rintro x w3 ⟨m1, k1, rfl, M1, hl1, hv1, h3⟩
    have HTD : Hid (Calls _ _ _ _ _) := rtwins_any w w3 _ h3 a1 n1 c1 Q1 (fun w' hw' => HQ.out.2.2.1.quiet hw'.fr) HQ.out.2.1 (by have := HZ.out.2; omega)
    clear h3 HTC
    go_wp2_with fail
    refine HTD.out.mono ?_
    rintro x w4 ⟨m2, k2, rfl, M2, hl2, hv2, h4⟩
    have HM : Hid ((M1.length = n0 ∧ evs M1 = evs Q0 ∧ n0 ≤ k1 ∧ k1 ≤ 9223372036854775807) ∧ (M2.length = n1 ∧ evs M2 = evs Q1 ∧ n1 ≤ k2 ∧ k2 ≤ 9223372036854775807)) := by
      have q1 := h4.two.entsCap
      have q2 := h4.entsCap
      rw [hl1] at q1
      rw [hl2] at q2
      exact ⟨⟨hl1, hv1, q1⟩, ⟨hl2, hv2, q2⟩⟩
    have HP := pseal_any w w4 HT.out.1 HT.out.2 _ h4 k c e t s HI.out m1 m2 n0 n1 k1 k2 M1 M2 (fun w' hw' => ⟨hw'.two.entsAt, hw'.entsAt⟩) hl1 hl2 HM.out.1.2.2.1 HM.out.2.2.2.1 HM.out.1.2.2.2 HM.out.2.2.2.2 (EIn.of_evs hv1 HQ.out.1.2.2.1) (EIn.of_evs hv2 HQ.out.2.2.2.1) (by rw [esz_evs hv1]; exact HZ.out.1) (by rw [esz_evs hv2]; exact HZ.out.2)
    rw [hv1, hv2] at HP
    have HSE : Hid (Calls Tryz.prog 13 #[.agg #[.int .u8 (k : Int), .int .u8 (c : Int), .int .u32 (e : Int), .int .u32 (t : Int), .int .u32 (s : Int)], .slice m1 n0 k1, .slice m2 n1 k2] _ _) := HP
    have p0 := h4.three.cell 0
    have p1 := h4.three.cell 1
    have p2 := h4.three.cell 2
    have p3 := h4.three.cell 3
    have p4 := h4.three.cell 4
    simp at p0 p1 p2 p3 p4
    clear h4 HTD HP hl1 hl2 hv1 hv2
    go_wp2_with fail
    refine HSE.out.mono ?_
    rintro x w5 ⟨v1, cd1, P1, rfl, hR1, h5⟩
    have HR1 : Hid (SealR k c e t s (evs Q0) (evs Q1) cd1 P1) := hR1
    have HRS : Hid (Calls Tryz.prog 14 #[.agg #[.int .u8 (k : Int), .int .u8 (c : Int), .int .u32 (e : Int), .int .u32 (t : Int), .int .u32 (s : Int)], .slice a0 n0 c0, .slice a1 n1 c1] _ _) := rseal20 w w5 _ h5 k c e t s HI.out a0 a1 n0 n1 c0 c1 Q0 Q1 (fun w' hw => ⟨HQ.out.1.2.1.quiet hw.fr, HQ.out.2.2.1.quiet hw.fr⟩) HQ.out.1.1 HQ.out.2.1 HQ.out.1.2.2.1 HQ.out.2.2.2.1 HZ.out.1 HZ.out.2
    clear p0 p1 p2 p3 p4 hR1 HSE
    have p0 := h5.four.cell 0
    have p1 := h5.four.cell 1
    have p2 := h5.four.cell 2
    have p3 := h5.four.cell 3
    have p4 := h5.four.cell 4
    simp at p0 p1 p2 p3 p4
    clear h5
    go_wp2_with fail
    refine HRS.out.mono ?_
    rintro x w6 ⟨v2, cd2, P2, rfl, hR2, h6⟩
    obtain ⟨e1, e2⟩ := sealR_one HR1.out hR2
    subst e1 e2
    have hcl := HR1.out.1
    have hkl := hchk_lt k c e t s
    have h6' : Own w w6 (Cells ba #[.int .u8 (k : Int), .int .u8 (c : Int), .int .u32 (e : Int), .int .u32 (t : Int), .int .u32 (s : Int)] 24 :: Row 5 1 v2 P1.length (vrow P1) :: Row 5 1 v1 P1.length (vrow P1) :: EntsT m2 k2 M2 :: EntsT m1 k1 M1 :: []) := h6.perm ((List.perm_append_comm (l₁ := [_, _, _, _]) (l₂ := [_])))
    have H6 : Hid (Own w w6 (Cells ba #[.int .u8 (k : Int), .int .u8 (c : Int), .int .u32 (e : Int), .int .u32 (t : Int), .int .u32 (s : Int)] 24 :: Row 5 1 v2 P1.length (vrow P1) :: Row 5 1 v1 P1.length (vrow P1) :: EntsT m2 k2 M2 :: EntsT m1 k1 M1 :: [])) := h6'
    clear p0 p1 p2 p3 p4 hR2 HRS h6 h6'
    have CS : Hid (∀ f : FrOf w6, Calls Tryz.prog 15 #[v1, v2] f.val fun e w' => e = .returned (.bool true) ∧ Fr Nobody f.val w') := fun f => by
      refine (same_any f.val v1 v2 P1 (Src.of_row (H6.out.quiet f.fr).three.row) (Src.of_row (H6.out.quiet f.fr).two.row)).mono ?_
      rintro e w' ⟨rfl, rfl⟩
      exact ⟨rfl, Fr.refl _ _⟩
    have CC : Hid (∀ f : FrOf w6, Calls Tryz.prog 16 #[.agg #[.int .u8 (k : Int), .int .u8 (c : Int), .int .u32 (e : Int), .int .u32 (t : Int), .int .u32 (s : Int)]] f.val fun x w' => x = .returned (.int .i64 ((hchk k c e t s : Nat) : Int)) ∧ Fr Nobody f.val w') := fun f => hcheck_any f.val k c e t s HI.out
    have CD : Hid (∀ f : FrOf w6, Calls Tryz.prog 17 #[.agg #[.int .u8 (k : Int), .int .u8 (c : Int), .int .u32 (e : Int), .int .u32 (t : Int), .int .u32 (s : Int)]] f.val fun x w' => x = .returned (.int .i64 ((hchk k c e t s : Nat) : Int)) ∧ Fr Nobody f.val w') := fun f => hrcheck_any f.val k c e t s HI.out
    have CE : Hid (∀ f : FrOf w6, Calls Tryz.prog 18 #[.slice m1 n0 k1, .slice a0 n0 c0] f.val fun e w' => e = .returned (.bool true) ∧ Fr Nobody f.val w') := fun f => by
      have h9 := sameEnts_any f.val m1 a0 n0 n0 k1 c0 M1 Q0 ((H6.out.quiet f.fr).tail.four.entsAt) (HQ.out.1.2.1.quiet (H6.out.fr.trans f.fr)) HM.out.1.1 HQ.out.1.1 (by rw [esz_evs HM.out.1.2.1]; have := HZ.out.1; omega) (by have := HZ.out.1; omega)
      rw [decide_eq_true HM.out.1.2.1] at h9
      exact h9
    have CF : Hid (∀ f : FrOf w6, Calls Tryz.prog 18 #[.slice m2 n1 k2, .slice a1 n1 c1] f.val fun e w' => e = .returned (.bool true) ∧ Fr Nobody f.val w') := fun f => by
      have h9 := sameEnts_any f.val m2 a1 n1 n1 k2 c1 M2 Q1 ((H6.out.quiet f.fr).four.entsAt) (HQ.out.2.2.1.quiet (H6.out.fr.trans f.fr)) HM.out.2.1 HQ.out.2.1 (by rw [esz_evs HM.out.2.2.1]; have := HZ.out.2; omega) (by have := HZ.out.2; omega)
      rw [decide_eq_true HM.out.2.2.1] at h9
      exact h9
    generalize hchk k c e t s = hc at CC CD hkl
    have q0 : ∀ f : FrOf w6, f.val.cell? ⟨ba, 0, none⟩ = some (.int .u8 (k : Int)) := fun f => by have := H6.out.frCells f 0; simpa using this
    have q1 : ∀ f : FrOf w6, f.val.cell? ⟨ba, 1, none⟩ = some (.int .u8 (c : Int)) := fun f => by have := H6.out.frCells f 1; simpa using this
    have q2 : ∀ f : FrOf w6, f.val.cell? ⟨ba, 2, none⟩ = some (.int .u32 (e : Int)) := fun f => by have := H6.out.frCells f 2; simpa using this
    have q3 : ∀ f : FrOf w6, f.val.cell? ⟨ba, 3, none⟩ = some (.int .u32 (t : Int)) := fun f => by have := H6.out.frCells f 3; simpa using this
    have q4 : ∀ f : FrOf w6, f.val.cell? ⟨ba, 4, none⟩ = some (.int .u32 (s : Int)) := fun f => by have := H6.out.frCells f 4; simpa using this
    have zc : ((cd1 : Int) != (cd1 : Int)) = false := by simp
    have zh : ((hc : Int) != (hc : Int)) = false := by simp
    go_wp2
    refine wp_region_fr (by kernel_rfl) (by kernel_rfl) ?_
    repeat (with_reducible refine wpQuiet_step (fun K hK => ?_)
            go_simp
            first
              | (refine hK _ ?_; clear hK K)
              | (apply Exists.intro
                 refine ⟨fun _ => ?_, hK _ ?_⟩
                 (first
                   | (go_at_call 15; with_reducible refine Calls.fr_of (CS.out _))
                   | (go_at_call 16; with_reducible refine Calls.fr_of (CC.out _))
                   | (go_at_call 17; with_reducible refine Calls.fr_of (CD.out _))
                   | (go_at_call 18; with_reducible refine Calls.fr_of (CE.out _))
                   | (go_at_call 18; with_reducible refine Calls.fr_of (CF.out _)))
                 clear hK K))
    refine wpQuiet_nil ?_
    rintro w' ⟨f, rfl⟩
    have H7 : Hid (Own w f.val (Cells ba #[.int .u8 (k : Int), .int .u8 (c : Int), .int .u32 (e : Int), .int .u32 (t : Int), .int .u32 (s : Int)] 24 :: Row 5 1 v2 P1.length (vrow P1) :: Row 5 1 v1 P1.length (vrow P1) :: EntsT m2 k2 M2 :: EntsT m1 k1 M1 :: [])) := H6.out.quiet f.fr
    clear H6 CS CC CD CE CF q0 q1 q2 q3 q4 zc zh hkl
    generalize f.val = w7 at *
    clear f
    by_cases hz : cd1 = 0
    · subst hz
      obtain ⟨hRr, -, hPf, hPl⟩ := HR1.out.2.2.1 rfl
      have hP0 : 0 < P1.length := by rw [hPf, length_frm]; omega
      obtain ⟨g, cap, hv, _⟩ := row_shape H7.out.three.row hP0
      subst hv
      have h7 := H7.out.three
      have hin : ∀ w' l', Own w w' (Row 5 1 (.slice (some ⟨g, 0, none⟩) P1.length cap) P1.length (vrow P1) :: l') → In w' (some ⟨g, 0, none⟩) P1.length cap P1 := fun w' l' hw => In.of_row hw.row rfl HR1.out.2.1
      have HPK : Hid (Calls _ _ _ _ _) := ppeek_any w w7 HT.out.2 _ h7 (some ⟨g, 0, none⟩) cap P1 (evs Q0) (evs Q1) (fun w' hw => hin w' _ hw) k c e t s HR1.out
      have HIN : Hid (∀ w' l', Own w w' (Row 5 1 (.slice (some ⟨g, 0, none⟩) P1.length cap) P1.length (vrow P1) :: l') → In w' (some ⟨g, 0, none⟩) P1.length cap P1) := hin
      clear h7 H7 hRr hPf hin
      have hPl2 : P1.length < 4294967296 := by omega
      go_wp2_with fail
      refine HPK.out.mono ?_
      rintro x w8 ⟨rfl, h8⟩
      have h9 := h8.allocC #[.int .u8 (k : Int), .int .u8 (c : Int), .int .u32 (e : Int), .int .u32 (t : Int), .int .u32 (s : Int)] 24
      have hx := popen_any w _ HT.out.1 HT.out.2 _ h9.two (some ⟨g, 0, none⟩) cap P1 m1 n0 k1 M1 Q1 (fun w' hw => HIN.out w' _ hw) (fun w' hw => hw.tail.tail.tail.tail.tail.entsAt) HM.out.1.1 HM.out.1.2.2.1 HM.out.1.2.2.2 (EIn.of_evs HM.out.1.2.1 HQ.out.1.2.2.1) HQ.out.2.2.2.1 (by rw [esz_evs HM.out.1.2.1]; exact HZ.out.1) HZ.out.2 k c e t s (by rw [HM.out.1.2.1]; exact HR1.out)
      rw [HQ.out.2.1] at hx
      have HOP : Hid (Calls _ _ _ _ _) := hx
      clear hx
      clear h8 h9 HPK
      go_wp2_with fail
      refine HOP.out.mono ?_
      rintro x w9 ⟨ao, cap9, rfl, M, hMv, hMI, h10⟩
      have h11 := h10.allocC #[.int .u8 (k : Int), .int .u8 (c : Int), .int .u32 (e : Int), .int .u32 (t : Int), .int .u32 (s : Int)] 24
      have y0 := h10.three.cell 0
      have y1 := h10.three.cell 1
      have y2 := h10.three.cell 2
      have y3 := h10.three.cell 3
      have y4 := h10.three.cell 4
      simp at y0 y1 y2 y3 y4
      have u0 := h10.four.cell 0
      have u1 := h10.four.cell 1
      have u2 := h10.four.cell 2
      have u3 := h10.four.cell 3
      have u4 := h10.four.cell 4
      simp at u0 u1 u2 u3 u4
      generalize w8.heap.size = bx at *
      have hb1 : bx < w9.heap.size := World.block_lt_of_cell? w9 _ y0
      have hb2 : w9.heap.size ≠ bx := by omega
      have hb3 : ba < w9.heap.size := World.block_lt_of_cell? w9 _ u0
      have hb4 : w9.heap.size ≠ ba := by omega
      have hml : M.length = n1 := by have h12 := congrArg List.length hMv; rw [evs_len, evs_len, HQ.out.2.1] at h12; exact h12
      have h9e := sameEnts_any (w9.alloc (.cells #[.int .u8 (k : Int), .int .u8 (c : Int), .int .u32 (e : Int), .int .u32 (t : Int), .int .u32 (s : Int)] 24)) ao a1 n1 n1 cap9 c1 M Q1 (h11.tail.entsAt) (HQ.out.2.2.1.quiet h11.fr) hml HQ.out.2.1 (by rw [esz_evs hMv]; have := HZ.out.2; omega) (by have := HZ.out.2; omega)
      rw [decide_eq_true hMv] at h9e
      have CG : Hid (Calls _ _ _ _ _) := h9e
      have HF : Hid (Fr Nobody w (w9.alloc (.cells #[.int .u8 (k : Int), .int .u8 (c : Int), .int .u32 (e : Int), .int .u32 (t : Int), .int .u32 (s : Int)] 24))) := h11.fr
      clear h10 h11 HOP h9e hPl hPl2 hP0 hMv hMI hml
      go_wp2_with fail
      refine CG.out.mono ?_
      rintro x w10 ⟨rfl, hf10⟩
      have HF2 : Hid (Fr Nobody w w10) := HF.out.trans hf10
      clear hf10 HF CG
      go_wp2
      go_ret
      exact ⟨rfl, HF2.out⟩
    · have z1 : ((cd1 : Int) != 0) = true := by simpa using hz
      have HF : Hid (Fr Nobody w w7) := H7.out.fr
      clear hz H7 HR1
      go_wp2
      go_ret
      exact ⟨rfl, HF.out⟩
  · have h4' : (decide (esz Q0 ≤ 400) && decide (esz Q1 ≤ 400)) = false := by simpa using h4
    rw [h4'] at HFW
    clear h4 h4'
    go_wp2_with fail
    refine HFW.out.mono ?_
    rintro x w2 ⟨rfl, hf2⟩
    have HF : Hid (Fr Nobody w w2) := (H1.out.quiet hf2).fr
    clear hf2 HFW H1
    go_wp2
    go_ret
    exact ⟨rfl, HF.out⟩
theorem packetSeals_walk (w : World) (ht : Tab w ∧ Tabf w) (k0 c0 e0 t0 s0 : Int) (w0 : HdOk k0 c0 e0 t0 s0) (a1 : Option Addr) (len1 cap1 : Nat) (z1 : List EnE) (w1 : IsEnts w a1 len1 cap1 z1) (hb1 : esz z1 ≤ 1048576) (a2 : Option Addr) (len2 cap2 : Nat) (z2 : List EnE) (w2 : IsEnts w a2 len2 cap2 z2) (hb2 : esz z2 ≤ 1048576) :
    Calls Tryz.prog 3 #[.agg (hdv k0 c0 e0 t0 s0), .slice a1 len1 cap1, .slice a2 len2 cap2] w fun e w' => e = .returned (.bool true) ∧ Below w.heap.size w w' := by
  obtain ⟨_, _, _, _, _, h1, i1⟩ := w0.nats
  rw [h1]
  refine (packetSeals_fr w ht.1 ht.2 _ _ _ _ _ i1 a1 len1 cap1 z1 (w1.inQ hb1) a2 len2 cap2 z2 (w2.inQ hb2)).mono ?_
  rintro e w' ⟨rfl, hf⟩
  exact ⟨rfl, hf.below (Nat.le_refl _) (fun _ _ h => h)⟩
end Go.Proofs.YtbencjopjdjepaaGreatDoor

