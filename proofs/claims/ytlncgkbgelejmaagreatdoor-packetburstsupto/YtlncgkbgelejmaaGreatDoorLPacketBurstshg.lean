/-
  A packet of which bits are turned that stand within 32 that follow one another is none: neither its head nor anything else is told: PacketBursts returns true, whatever its arguments of bulk at most 1048576, where the two tables (of the sum and of the components) lie as the program's text lays them, and changes nothing that was there.
-/
import Derived.Test.YtlncgkbgelejmaaGreatDoorGdg
import Derived.Test.YtlncgkbgelejmaaGreatDoorPseg
import Derived.OpenShut
import Derived.SevenTiedAt
import Derived.Deep.DeepHandedRow
namespace Go.Proofs.YtlncgkbgelejmaaGreatDoor
open Go.ChangeShapes Go.WideShapes Go.ChangeAt Go.RowKit
set_option linter.unusedVariables false
set_option maxRecDepth 100000

def InQ (w : World) (a : Option Addr) (n c : Nat) (Q : List EnE) : Prop := Q.length = n ∧ EntsAt w a Q ∧ EIn Q ∧ esz Q ≤ 1048576 ∧ n ≤ c ∧ c ≤ 9223372036854775807
theorem IsEnts.inQ {w : World} {a : Option Addr} {n c : Nat} {Q : List EnE} (h : IsEnts w a n c Q) (hz : esz Q ≤ 1048576) : InQ w a n c Q := ⟨h.1, h.ents.1, h.ents.2, hz, h.2.1, by have := h.2.2.1; unfold maxLen at this; omega⟩
set_option maxHeartbeats 16000000 in
theorem packetBursts_fr (w : World) (ht : Tab w) (htf : Tabf w) (k c e t s : Nat) (hI : HIn k c e t s) (a0 : Option Addr) (n0 c0 : Nat) (Q0 : List EnE) (hQ0 : InQ w a0 n0 c0 Q0) (a1 : Option Addr) (n1 c1 : Nat) (Q1 : List EnE) (hQ1 : InQ w a1 n1 c1 Q1) (at1 : Nat) (hat : at1 < 65536) (p q : Nat) (hp : p < 4294967296) (hq : bits .or .u32 (p : Int) 1 = (q : Int)) (hq2 : q < 4294967296) (hodd : q % 2 = 1) :
    Calls Tryz.prog 3 #[.agg #[.int .u8 (k : Int), .int .u8 (c : Int), .int .u32 (e : Int), .int .u32 (t : Int), .int .u32 (s : Int)], .slice a0 n0 c0, .slice a1 n1 c1, .int .u16 (at1 : Int), .int .u32 (p : Int)] w fun x w' => x = .returned (.bool true) ∧ Fr Nobody w w' := by
  have hS := (Own.start w).allocC #[.int .u8 (k : Int), .int .u8 (c : Int), .int .u32 (e : Int), .int .u32 (t : Int), .int .u32 (s : Int)] 24
  have HAW : Hid (Calls _ _ _ _ _) := awake20 (w.alloc (.cells #[.int .u8 (k : Int), .int .u8 (c : Int), .int .u32 (e : Int), .int .u32 (t : Int), .int .u32 (s : Int)] 24)) (htf.quiet hS.fr)
  have HT : Hid (Tab w ∧ Tabf w) := ⟨ht, htf⟩
  have HI : Hid (HIn k c e t s) := hI
  have HQ : Hid (InQ w a0 n0 c0 Q0 ∧ InQ w a1 n1 c1 Q1) := ⟨hQ0, hQ1⟩
  have HOD : Hid (q % 2 = 1) := hodd
  have HS : Hid (Own w _ _) := hS
  clear ht htf hQ0 hQ1 hI hS hodd
  go_enter Tryz.func3, Tryz.ntmps3
  go_wp2_with fail
  refine HAW.out.mono ?_
  rintro x w1 ⟨rfl, hf1⟩
  have h1 := HS.out.quiet hf1
  have HFW : Hid (Calls _ _ _ _ _) := few20_any w1 a0 a1 n0 n1 c0 c1 Q0 Q1 HQ.out.1.1 HQ.out.2.1 (HQ.out.1.2.1.quiet h1.fr) (HQ.out.2.2.1.quiet h1.fr) HQ.out.1.2.2.2.1 HQ.out.2.2.2.2.1
  have H1 : Hid (Own w w1 _) := h1
  clear hf1 h1 HAW HS
  generalize w.heap.size = ba at *
  by_cases h4 : (decide (esz Q0 ≤ 400) && decide (esz Q1 ≤ 400)) = true
  · rw [h4] at HFW
    have HZ : Hid (esz Q0 ≤ 400 ∧ esz Q1 ≤ 400) := by show _ ∧ _; simpa using h4
    clear h4
    go_wp2_with fail
    refine HFW.out.mono ?_
    rintro x w2 ⟨rfl, hf2⟩
    have h2 := H1.out.quiet hf2
    have p0 := h2.cell 0
    have p1 := h2.cell 1
    have p2 := h2.cell 2
    have p3 := h2.cell 3
    have p4 := h2.cell 4
    simp at p0 p1 p2 p3 p4
    have HSE : Hid (Calls Tryz.prog 6 #[.agg #[.int .u8 (k : Int), .int .u8 (c : Int), .int .u32 (e : Int), .int .u32 (t : Int), .int .u32 (s : Int)], .slice a0 n0 c0, .slice a1 n1 c1] _ _) := rseal20 w w2 _ h2 k c e t s HI.out a0 a1 n0 n1 c0 c1 Q0 Q1 (fun w' hw => ⟨HQ.out.1.2.1.quiet hw.fr, HQ.out.2.2.1.quiet hw.fr⟩) HQ.out.1.1 HQ.out.2.1 HQ.out.1.2.2.1 HQ.out.2.2.2.1 HZ.out.1 HZ.out.2
    clear hf2 h2 HFW H1
    go_wp2_with fail
    refine HSE.out.mono ?_
    rintro x w3 ⟨v3, code, P, rfl, hR, h3⟩
    have hcl := hR.1
    have HR : Hid (SealR k c e t s (evs Q0) (evs Q1) code P) := hR
    have H3 : Hid (Own w w3 _) := h3
    clear hR h3 HSE p0 p1 p2 p3 p4
    by_cases hc0 : code = 0
    · subst hc0
      have z0 : ((0 : Int) != 0) = false := rfl
      obtain ⟨-, -, hP, hPl⟩ := HR.out.2.2 rfl
      obtain ⟨B, hB⟩ : ∃ B, B = pack (headB k c e t s ++ contB k (evs Q0) (evs Q1)) := ⟨_, rfl⟩
      rw [← hB] at hP
      have hBb : ∀ x ∈ B, x < 256 := by rw [hB]; exact pack_byte _
      obtain ⟨d, hd⟩ : ∃ d, d = B.length := ⟨_, rfl⟩
      have hPd : P.length = d + 4 := by rw [hP, length_frm, hd]
      have hd4 : d ≤ 4096 := by omega
      have hPb := HR.out.2.1
      have h3 := H3.out
      rw [hPd] at h3
      obtain ⟨g, cp, hv, -⟩ := row_shape h3.row (by omega)
      subst hv
      have hin := In.of_row h3.row hPd hPb
      obtain ⟨tt, htt⟩ : ∃ tt, tt = at1 % (8 * (d + 4)) := ⟨_, rfl⟩
      have ht1 : tt < 8 * (d + 4) := by rw [htt]; exact Nat.mod_lt _ (by omega)
      have ht2 : (at1 : Int) % (8 * ((d : Int) + 4)) = (tt : Int) := by rw [htt, Int.natCast_emod, Int.natCast_mul]; rfl
      have HTU : Hid (Calls _ _ _ _ _) := turn_any w3 (some ⟨g, 0, none⟩) cp (d + 4) P tt q hin.at' hin.nil hin.eqn hin.byt (by omega) ht1 hq2
      have HBU : Hid (∀ Q : List Nat, Q.length = d + 4 → (∀ x ∈ Q, x < 256) → bnum Q = bnum P ^^^ (2 ^ tt * pats q tt (8 * (d + 4)) 32) → bnum (Q.drop d) ≠ crc (Q.take d)) := fun Q h1 h2 h5 => burst_no_frame B Q d tt q hd.symm hBb h1 h2 HOD.out ht1 (by rw [← hP]; exact h5)
      have H4 : Hid (Own w w3 _) := h3
      clear h3 H3 hin hP hB hBb hd hPd hPb htt hPl
      go_wp2_with fail
      refine HTU.out.mono ?_
      rintro x w4 ⟨v4, Q, rfl, ho, hq1, hqb, hqn, hf4⟩
      obtain ⟨g4, cp4, hv4, -⟩ := row_shape ho (by omega)
      subst hv4
      have h5 : Own w w4 (Row 5 1 (.slice (some ⟨g4, 0, none⟩) (d + 4) cp4) (d + 4) (vrow Q) :: _) := H4.out.new (Row 5 1 (.slice (some ⟨g4, 0, none⟩) (d + 4) cp4) (d + 4) (vrow Q)) (fun j => (Value.slice (some ⟨g4, 0, none⟩) (d + 4) cp4).ownBlock = some j) ⟨row_weak ho, fun _ => Iff.rfl⟩ hf4 (fun j hj => (ho.lt j hj).1)
      have hne := HBU.out Q hq1 hqb hqn
      have HIN : Hid (∀ w' l', Own w w' (Row 5 1 (.slice (some ⟨g4, 0, none⟩) (d + 4) cp4) (d + 4) (vrow Q) :: l') → In w' (some ⟨g4, 0, none⟩) (d + 4) cp4 Q) := fun w' l' hw => In.of_row hw.row hq1 hqb
      have HPK : Hid (Calls _ _ _ _ _) := ppeek_sum w w4 HT.out.2 _ h5 (some ⟨g4, 0, none⟩) cp4 d Q (fun w' hw => HIN.out w' _ hw) hd4 hne
      have HNE : Hid (bnum (Q.drop d) ≠ crc (Q.take d)) := hne
      clear ho hq1 hqb hqn hf4 h5 hne HTU HBU H4
      go_wp2_with fail
      refine HPK.out.mono ?_
      rintro x w5 ⟨rfl, h6⟩
      have h7 := h6.allocC #[.int .u8 0, .int .u8 0, .int .u32 0, .int .u32 0, .int .u32 0] 24
      have HTW : Hid (Calls _ _ _ _ _) := rtwins_any w _ _ h7 a0 n0 c0 Q0 (fun w' hw => HQ.out.1.2.1.quiet hw.fr) HQ.out.1.1 (by have := HZ.out.1; omega)
      have hb5 : w5.heap.size = w5.heap.size := rfl
      clear h6 h7 HPK
      go_wp2_with fail
      refine HTW.out.mono ?_
      rintro x w6 ⟨a6, c6, rfl, M6, -, -, h8⟩
      generalize w5.heap.size = b5 at *
      have HOP : Hid (Calls _ _ _ _ _) := popen_sum w w6 HT.out.2 _ h8 (some ⟨g4, 0, none⟩) cp4 d Q (.slice a6 n0 c6) a6 n0 c6 rfl (fun w' hw => HIN.out w' _ hw.tail.tail) hd4 HNE.out
      clear h8 HTW hb5
      go_wp2_with fail
      refine HOP.out.mono ?_
      rintro x w7 ⟨rfl, h9⟩
      have h10 := h9.allocC #[.int .u8 0, .int .u8 0, .int .u32 0, .int .u32 0, .int .u32 0] 24
      have r0 := h9.two.cell 0
      have r1 := h9.two.cell 1
      have r2 := h9.two.cell 2
      have r3 := h9.two.cell 3
      have r4 := h9.two.cell 4
      simp at r0 r1 r2 r3 r4
      have hb1 : b5 < w7.heap.size := World.block_lt_of_cell? w7 _ r0
      have hb2 : w7.heap.size ≠ b5 := by omega
      have HF : Hid (Fr Nobody w _) := h10.fr
      clear h9 h10 HOP HIN HNE
      go_wp2
      go_ret
      exact ⟨rfl, HF.out⟩
    · have z0 : ((code : Int) != 0) = true := by simpa using hc0
      have HF : Hid (Fr Nobody w w3) := H3.out.fr
      clear hc0 H3 HR
      go_wp2
      go_ret
      exact ⟨rfl, HF.out⟩
  · have h4' : (decide (esz Q0 ≤ 400) && decide (esz Q1 ≤ 400)) = false := by simpa using h4
    rw [h4'] at HFW
    clear h4 h4'
    go_wp2_with fail
    refine HFW.out.mono ?_
    rintro x w2 ⟨rfl, hf2⟩
    have HF : Hid (Fr Nobody w w2) := (H1.out.quiet hf2).fr
    clear hf2 HFW H1
    go_wp2
    go_ret
    exact ⟨rfl, HF.out⟩
theorem packetBursts_walk (w : World) (ht : Tab w ∧ Tabf w) (k0 c0 e0 t0 s0 : Int) (w0 : HdOk k0 c0 e0 t0 s0) (a1 : Option Addr) (len1 cap1 : Nat) (z1 : List EnE) (w1 : IsEnts w a1 len1 cap1 z1) (hb1 : esz z1 ≤ 1048576) (a2 : Option Addr) (len2 cap2 : Nat) (z2 : List EnE) (w2 : IsEnts w a2 len2 cap2 z2) (hb2 : esz z2 ≤ 1048576) (a3 : Int) (w3 : (Lit.int .u16 a3).wf = true) (a4 : Int) (w4 : (Lit.int .u32 a4).wf = true) :
    Calls Tryz.prog 3 #[.agg (hdv k0 c0 e0 t0 s0), .slice a1 len1 cap1, .slice a2 len2 cap2, .int .u16 a3, .int .u32 a4] w fun e w' => e = .returned (.bool true) ∧ Below w.heap.size w w' := by
  obtain ⟨_, _, _, _, _, h1, i1⟩ := w0.nats
  obtain ⟨at1, rfl, hat⟩ := u16_rng w3
  obtain ⟨p, rfl, hp⟩ := u32_rng w4
  obtain ⟨q, hq, hq2, hodd⟩ := or_one p hp
  rw [h1]
  refine (packetBursts_fr w ht.1 ht.2 _ _ _ _ _ i1 a1 len1 cap1 z1 (w1.inQ hb1) a2 len2 cap2 z2 (w2.inQ hb2) at1 hat p q hp hq hq2 hodd).mono ?_
  rintro e w' ⟨rfl, hf⟩
  exact ⟨rfl, hf.below (Nat.le_refl _) (fun _ _ h => h)⟩
end Go.Proofs.YtlncgkbgelejmaaGreatDoor
