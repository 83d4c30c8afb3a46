/-
  Two packets with one frame are one packet, behind the same snapshot: PacketApart returns true, whatever its arguments of bulk at most 1048576, where the two tables (of the sum and of the components) lie as the program's text lays them, and changes nothing that was there.
-/
import Derived.Test.YtheafmecpnjdjaaDoorGdg
import Derived.OpenShut
import Derived.SevenTiedAt
import Derived.Deep.DeepHandedRow
import Derived.Deep.RegionLaw
namespace Go.Proofs.YtheafmecpnjdjaaDoor
open Go.ChangeShapes Go.WideShapes Go.ChangeAt Go.RowKit
set_option linter.unusedVariables false
set_option maxRecDepth 100000

theorem int_beq (a b : Nat) : ((a : Int) == (b : Int)) = decide (a = b) := by
  by_cases h : a = b
  · subst h; simp
  · rw [decide_eq_false h, beq_eq_false_iff_ne]; omega
theorem same_dec (w : World) (a b : Value) (P Q : List Nat) (ha : Src w a P.length (vrow P)) (hb : Src w b Q.length (vrow Q)) (hP : ∀ x ∈ P, x < 256) (hQ : ∀ x ∈ Q, x < 256) :
    Calls Tryd.prog 10 #[a, b] w fun e w' => e = .returned (.bool (decide (P = Q))) ∧ Fr Nobody w w' := by
  by_cases h : P = Q
  · subst h
    rw [decide_eq_true rfl]
    refine (same_any w a b P ha hb).mono ?_
    rintro e w' ⟨rfl, rfl⟩
    exact ⟨rfl, Fr.refl _ _⟩
  · rw [decide_eq_false h]
    refine (same_no w a b P Q ha hb hP hQ h).mono ?_
    rintro e w' ⟨rfl, rfl⟩
    exact ⟨rfl, Fr.refl _ _⟩
/-- Twins of both lists, and Seal of them -/
structure TwSe (w : World) (LB : List Thing) (k c e t s : Nat) (a0 a1 : Option Addr) (n0 n1 c0 c1 : Nat) (Q0 Q1 : List EnE) : Prop where
  tc : ∀ W, Own w W LB → Calls Tryd.prog 9 #[.slice a0 n0 c0] W fun e w' => ∃ (ao : Option Addr) (cap : Nat), e = .returned (.slice ao n0 cap) ∧ ∃ M : List EnE, M.length = n0 ∧ evs M = evs Q0 ∧ Own w w' (EntsT ao cap M :: LB)
  td : ∀ W m k M, Own w W (EntsT m k M :: LB) → Calls Tryd.prog 9 #[.slice a1 n1 c1] W fun e w' => ∃ (ao : Option Addr) (cap : Nat), e = .returned (.slice ao n1 cap) ∧ ∃ M2 : List EnE, M2.length = n1 ∧ evs M2 = evs Q1 ∧ Own w w' (EntsT ao cap M2 :: EntsT m k M :: LB)
  se : ∀ W m1 k1 M1 m2 k2 M2, M1.length = n0 → evs M1 = evs Q0 → M2.length = n1 → evs M2 = evs Q1 → Own w W (EntsT m2 k2 M2 :: EntsT m1 k1 M1 :: LB) → Calls Tryd.prog 8 #[.agg #[.int .u8 (k : Int), .int .u8 (c : Int), .int .u32 (e : Int), .int .u32 (t : Int), .int .u32 (s : Int)], .slice m1 n0 k1, .slice m2 n1 k2] W fun x w' => ∃ v code P, x = .returned (.tuple #[v, .int .i64 ((code : Nat) : Int)]) ∧ SealR k c e t s (evs Q0) (evs Q1) code P ∧ Own w w' (Row 5 1 v P.length (vrow P) :: LB)
theorem twSe (w : World) (htb : Tab w) (htf : Tabf w) (LB : List Thing) (k c e t s : Nat) (hI : HIn k c e t s) (a0 a1 : Option Addr) (n0 n1 c0 c1 : Nat) (Q0 Q1 : List EnE) (hn0 : Q0.length = n0) (hn1 : Q1.length = n1) (hE0 : EntsAt w a0 Q0) (hE1 : EntsAt w a1 Q1) (hI0 : EIn Q0) (hI1 : EIn Q1) (z0 : esz Q0 ≤ 400) (z1 : esz Q1 ≤ 400) : TwSe w LB k c e t s a0 a1 n0 n1 c0 c1 Q0 Q1 where
  tc := fun W hw => rtwins_any w W _ hw a0 n0 c0 Q0 (fun w' hw' => hE0.quiet hw'.fr) hn0 (by omega)
  td := fun W m k M hw => rtwins_any w W _ hw a1 n1 c1 Q1 (fun w' hw' => hE1.quiet hw'.fr) hn1 (by omega)
  se := fun W m1 k1 M1 m2 k2 M2 hl1 hv1 hl2 hv2 hw => by
    have q1 := hw.two.entsCap
    have q2 := hw.entsCap
    rw [hl1] at q1
    rw [hl2] at q2
    have h := pseal_any w W htb htf _ hw k c e t s hI m1 m2 n0 n1 k1 k2 M1 M2 (fun w' hw' => ⟨hw'.two.entsAt, hw'.entsAt⟩) hl1 hl2 q1.1 q2.1 q1.2 q2.2 (EIn.of_evs hv1 hI0) (EIn.of_evs hv2 hI1) (by rw [esz_evs hv1]; exact z0) (by rw [esz_evs hv2]; exact z1)
    rw [hv1, hv2] at h
    refine h.mono ?_
    rintro x w' ⟨v, code, P, rfl, hR, hO⟩
    exact ⟨v, code, P, rfl, hR, hO.two.tail.two.tail⟩
def InQ (w : World) (a : Option Addr) (n c : Nat) (Q : List EnE) : Prop := Q.length = n ∧ EntsAt w a Q ∧ EIn Q ∧ esz Q ≤ 1048576 ∧ n ≤ c ∧ c ≤ 9223372036854775807
theorem IsEnts.inQ {w : World} {a : Option Addr} {n c : Nat} {Q : List EnE} (h : IsEnts w a n c Q) (hz : esz Q ≤ 1048576) : InQ w a n c Q := ⟨h.1, h.ents.1, h.ents.2, hz, h.2.1, by have := h.2.2.1; unfold maxLen at this; omega⟩
set_option maxHeartbeats 16000000 in
theorem packetApart_fr (w : World) (ht : Tab w) (htf : Tabf w) (ka ca ea ta sa : Nat) (hIa : HIn ka ca ea ta sa) (kb cb eb tb sb : Nat) (hIb : HIn kb cb eb tb sb) (a0 : Option Addr) (n0 c0 : Nat) (Q0 : List EnE) (hQ0 : InQ w a0 n0 c0 Q0) (a1 : Option Addr) (n1 c1 : Nat) (Q1 : List EnE) (hQ1 : InQ w a1 n1 c1 Q1) (a2 : Option Addr) (n2 c2 : Nat) (Q2 : List EnE) (hQ2 : InQ w a2 n2 c2 Q2) :
    Calls Tryd.prog 4 #[.agg #[.int .u8 (ka : Int), .int .u8 (ca : Int), .int .u32 (ea : Int), .int .u32 (ta : Int), .int .u32 (sa : Int)], .agg #[.int .u8 (kb : Int), .int .u8 (cb : Int), .int .u32 (eb : Int), .int .u32 (tb : Int), .int .u32 (sb : Int)], .slice a0 n0 c0, .slice a1 n1 c1, .slice a2 n2 c2] w fun e w' => e = .returned (.bool true) ∧ Fr Nobody w w' := by
  have hS := ((Own.start w).allocC #[.int .u8 (ka : Int), .int .u8 (ca : Int), .int .u32 (ea : Int), .int .u32 (ta : Int), .int .u32 (sa : Int)] 28).allocC #[.int .u8 (kb : Int), .int .u8 (cb : Int), .int .u32 (eb : Int), .int .u32 (tb : Int), .int .u32 (sb : Int)] 28
  have HAW : Hid (Calls _ _ _ _ _) := awake20 ((w.alloc (.cells #[.int .u8 (ka : Int), .int .u8 (ca : Int), .int .u32 (ea : Int), .int .u32 (ta : Int), .int .u32 (sa : Int)] 28)).alloc (.cells #[.int .u8 (kb : Int), .int .u8 (cb : Int), .int .u32 (eb : Int), .int .u32 (tb : Int), .int .u32 (sb : Int)] 28)) (htf.quiet hS.fr)
  have HT : Hid (Tab w ∧ Tabf w) := ⟨ht, htf⟩
  have HI : Hid (HIn ka ca ea ta sa ∧ HIn kb cb eb tb sb) := ⟨hIa, hIb⟩
  have HQ : Hid (InQ w a0 n0 c0 Q0 ∧ InQ w a1 n1 c1 Q1 ∧ InQ w a2 n2 c2 Q2) := ⟨hQ0, hQ1, hQ2⟩
  have HS : Hid (Own w _ _) := hS
  clear ht htf hQ0 hQ1 hQ2 hIa hIb hS
  go_enter Tryd.func4, Tryd.ntmps4
  go_wp2_with fail
  refine HAW.out.mono ?_
  rintro e w1 ⟨rfl, hf1⟩
  have h1 := HS.out.quiet hf1
  have HFW : Hid (Calls _ _ _ _ _) := few20_any w1 a1 a2 n1 n2 c1 c2 Q1 Q2 HQ.out.2.1.1 HQ.out.2.2.1 (HQ.out.2.1.2.1.quiet h1.fr) (HQ.out.2.2.2.1.quiet h1.fr) HQ.out.2.1.2.2.2.1 HQ.out.2.2.2.2.2.1
  have H1 : Hid (Own w w1 _) := h1
  clear hf1 h1 HAW HS
  have hbs : (w.alloc (.cells #[.int .u8 (ka : Int), .int .u8 (ca : Int), .int .u32 (ea : Int), .int .u32 (ta : Int), .int .u32 (sa : Int)] 28)).heap.size = w.heap.size + 1 := Array.size_push _
  rw [hbs] at H1
  clear hbs
  generalize w.heap.size = ba at *
  by_cases h4 : (decide (esz Q1 ≤ 400) && decide (esz Q2 ≤ 400)) = true
  · rw [h4] at HFW
    have HZ : Hid (esz Q1 ≤ 400 ∧ esz Q2 ≤ 400) := by show _ ∧ _; simpa using h4
    clear h4
    go_wp2_with fail
    refine HFW.out.mono ?_
    rintro e w2 ⟨rfl, hf2⟩
    have h2 := H1.out.quiet hf2
    have HF0 : Hid (Calls _ _ _ _ _) := few_any w2 a0 n0 c0 Q0 HQ.out.1.1 (HQ.out.1.2.1.quiet h2.fr) HQ.out.1.2.2.2.1
    have H2 : Hid (Own w w2 _) := h2
    clear hf2 h2 HFW H1
    by_cases h5 : esz Q0 ≤ 400
    · rw [decide_eq_true h5] at HF0
      go_wp2_with fail
      refine HF0.out.mono ?_
      rintro e w3 ⟨rfl, hf3⟩
      have H3 : Hid (Own w w3 ((Cells (ba + 1) #[.int .u8 (kb : Int), .int .u8 (cb : Int), .int .u32 (eb : Int), .int .u32 (tb : Int), .int .u32 (sb : Int)] 28) :: (Cells ba #[.int .u8 (ka : Int), .int .u8 (ca : Int), .int .u32 (ea : Int), .int .u32 (ta : Int), .int .u32 (sa : Int)] 28) :: [])) := H2.out.quiet hf3
      have TS : Hid (TwSe w ((Cells (ba + 1) #[.int .u8 (kb : Int), .int .u8 (cb : Int), .int .u32 (eb : Int), .int .u32 (tb : Int), .int .u32 (sb : Int)] 28) :: (Cells ba #[.int .u8 (ka : Int), .int .u8 (ca : Int), .int .u32 (ea : Int), .int .u32 (ta : Int), .int .u32 (sa : Int)] 28) :: []) ka ca ea ta sa a0 a1 n0 n1 c0 c1 Q0 Q1) := twSe w HT.out.1 HT.out.2 _ ka ca ea ta sa HI.out.1 a0 a1 n0 n1 c0 c1 Q0 Q1 HQ.out.1.1 HQ.out.2.1.1 HQ.out.1.2.1 HQ.out.2.1.2.1 HQ.out.1.2.2.1 HQ.out.2.1.2.2.1 h5 HZ.out.1
      have TT : Hid (∀ v P, TwSe w (Row 5 1 v (List.length P) (vrow P) :: (Cells (ba + 1) #[.int .u8 (kb : Int), .int .u8 (cb : Int), .int .u32 (eb : Int), .int .u32 (tb : Int), .int .u32 (sb : Int)] 28) :: (Cells ba #[.int .u8 (ka : Int), .int .u8 (ca : Int), .int .u32 (ea : Int), .int .u32 (ta : Int), .int .u32 (sa : Int)] 28) :: []) kb cb eb tb sb a0 a2 n0 n2 c0 c2 Q0 Q2) := fun v P => twSe w HT.out.1 HT.out.2 _ kb cb eb tb sb HI.out.2 a0 a2 n0 n2 c0 c2 Q0 Q2 HQ.out.1.1 HQ.out.2.2.1 HQ.out.1.2.1 HQ.out.2.2.2.1 HQ.out.1.2.2.1 HQ.out.2.2.2.2.1 h5 HZ.out.2
      clear hf3 HF0 H2
      go_wp2
      have p0 := H3.out.two.cell 0
      have p1 := H3.out.two.cell 1
      have p2 := H3.out.two.cell 2
      have p3 := H3.out.two.cell 3
      have p4 := H3.out.two.cell 4
      simp at p0 p1 p2 p3 p4
      have O1 := H3.out.drew
      clear H3
      go_region_held3 (fun w' => w'.cell? ⟨ba, 0, none⟩ = some (.int .u8 (ka : Int)) ∧ w'.cell? ⟨ba, 1, none⟩ = some (.int .u8 (ca : Int)) ∧ w'.cell? ⟨ba, 2, none⟩ = some (.int .u32 (ea : Int)) ∧ w'.cell? ⟨ba, 3, none⟩ = some (.int .u32 (ta : Int)) ∧ w'.cell? ⟨ba, 4, none⟩ = some (.int .u32 (sa : Int))) (go_keep)
        (first
          | (go_at_call 9; with_reducible refine (TS.out.tc _ O1).mono ?_; rintro e w6 ⟨m1, k1, rfl, M1, hl1, hv1, O6⟩
             have u0 := (Own.three O6).cell 0
             have u1 := (Own.three O6).cell 1
             have u2 := (Own.three O6).cell 2
             have u3 := (Own.three O6).cell 3
             have u4 := (Own.three O6).cell 4
             simp at u0 u1 u2 u3 u4)
          | (go_at_call 9; with_reducible refine (TS.out.td _ m1 k1 M1 O6).mono ?_; rintro e w7 ⟨m2, k2, rfl, M2, hl2, hv2, O7⟩
             have u0 := (Own.four O7).cell 0
             have u1 := (Own.four O7).cell 1
             have u2 := (Own.four O7).cell 2
             have u3 := (Own.four O7).cell 3
             have u4 := (Own.four O7).cell 4
             simp at u0 u1 u2 u3 u4)
          | (go_at_call 8; with_reducible refine (TS.out.se _ m1 k1 M1 m2 k2 M2 hl1 hv1 hl2 hv2 O7).mono ?_; rintro e w8 ⟨v1, cd1, P1, rfl, R1, O8⟩
             have u0 := (Own.three O8).cell 0
             have u1 := (Own.three O8).cell 1
             have u2 := (Own.three O8).cell 2
             have u3 := (Own.three O8).cell 3
             have u4 := (Own.three O8).cell 4
             simp at u0 u1 u2 u3 u4))
      clear TS O1 O6 O7 p0 p1 p2 p3 p4 u0 u1 u2 u3 u4 hl1 hv1 hl2 hv2
      have TU : Hid (TwSe w (Row 5 1 v1 P1.length (vrow P1) :: (Cells (ba + 1) #[.int .u8 (kb : Int), .int .u8 (cb : Int), .int .u32 (eb : Int), .int .u32 (tb : Int), .int .u32 (sb : Int)] 28) :: (Cells ba #[.int .u8 (ka : Int), .int .u8 (ca : Int), .int .u32 (ea : Int), .int .u32 (ta : Int), .int .u32 (sa : Int)] 28) :: []) kb cb eb tb sb a0 a2 n0 n2 c0 c2 Q0 Q2) := TT.out v1 P1
      have HR1 : Hid (SealR ka ca ea ta sa (evs Q0) (evs Q1) cd1 P1) := R1
      have H8 : Hid (Own w w8 (Row 5 1 v1 P1.length (vrow P1) :: (Cells (ba + 1) #[.int .u8 (kb : Int), .int .u8 (cb : Int), .int .u32 (eb : Int), .int .u32 (tb : Int), .int .u32 (sb : Int)] 28) :: (Cells ba #[.int .u8 (ka : Int), .int .u8 (ca : Int), .int .u32 (ea : Int), .int .u32 (ta : Int), .int .u32 (sa : Int)] 28) :: [])) := O8
      clear TT O8 R1
      go_wp2
      have p0 := H8.out.two.cell 0
      have p1 := H8.out.two.cell 1
      have p2 := H8.out.two.cell 2
      have p3 := H8.out.two.cell 3
      have p4 := H8.out.two.cell 4
      simp at p0 p1 p2 p3 p4
      have O1 := H8.out.drew
      clear H8
      go_region_held3 (fun w' => w'.cell? ⟨ba + 1, 0, none⟩ = some (.int .u8 (kb : Int)) ∧ w'.cell? ⟨ba + 1, 1, none⟩ = some (.int .u8 (cb : Int)) ∧ w'.cell? ⟨ba + 1, 2, none⟩ = some (.int .u32 (eb : Int)) ∧ w'.cell? ⟨ba + 1, 3, none⟩ = some (.int .u32 (tb : Int)) ∧ w'.cell? ⟨ba + 1, 4, none⟩ = some (.int .u32 (sb : Int))) (go_keep)
        (first
          | (go_at_call 9; with_reducible refine (TU.out.tc _ O1).mono ?_; rintro e w9 ⟨m3, k3, rfl, M3, hl3, hv3, O9⟩
             have u0 := (Own.three O9).cell 0
             have u1 := (Own.three O9).cell 1
             have u2 := (Own.three O9).cell 2
             have u3 := (Own.three O9).cell 3
             have u4 := (Own.three O9).cell 4
             simp at u0 u1 u2 u3 u4)
          | (go_at_call 9; with_reducible refine (TU.out.td _ m3 k3 M3 O9).mono ?_; rintro e w10 ⟨m4, k4, rfl, M4, hl4, hv4, O10⟩
             have u0 := (Own.four O10).cell 0
             have u1 := (Own.four O10).cell 1
             have u2 := (Own.four O10).cell 2
             have u3 := (Own.four O10).cell 3
             have u4 := (Own.four O10).cell 4
             simp at u0 u1 u2 u3 u4)
          | (go_at_call 8; with_reducible refine (TU.out.se _ m3 k3 M3 m4 k4 M4 hl3 hv3 hl4 hv4 O10).mono ?_; rintro e w11 ⟨v2, cd2, P2, rfl, R2, O11⟩
             have u0 := (Own.three O11).cell 0
             have u1 := (Own.three O11).cell 1
             have u2 := (Own.three O11).cell 2
             have u3 := (Own.three O11).cell 3
             have u4 := (Own.three O11).cell 4
             simp at u0 u1 u2 u3 u4))
      have HR2 : Hid (SealR kb cb eb tb sb (evs Q0) (evs Q2) cd2 P2) := R2
      have H11 : Hid (Own w w11 (Row 5 1 v2 P2.length (vrow P2) :: Row 5 1 v1 P1.length (vrow P1) :: (Cells (ba + 1) #[.int .u8 (kb : Int), .int .u8 (cb : Int), .int .u32 (eb : Int), .int .u32 (tb : Int), .int .u32 (sb : Int)] 28) :: (Cells ba #[.int .u8 (ka : Int), .int .u8 (ca : Int), .int .u32 (ea : Int), .int .u32 (ta : Int), .int .u32 (sa : Int)] 28) :: [])) := O11
      have hc1 := HR1.out.1
      have hc2 := HR2.out.1
      clear TU O1 O9 O10 O11 R2 p0 p1 p2 p3 p4 u0 u1 u2 u3 u4 hl3 hv3 hl4 hv4
      by_cases e1 : cd1 = 0
      · subst e1
        have z1 : ((0 : Int) != 0) = false := rfl
        by_cases e2 : cd2 = 0
        · subst e2
          obtain ⟨hr1, hk1, hp1⟩ := HR1.out.2.2 rfl
          obtain ⟨hr2, hk2, hp2⟩ := HR2.out.2.2 rfl
          have hid : ∀ L : List EnE, EIn L → ∀ x ∈ evs L, x.1 < 4294967296 := fun L hL x hx => by
            obtain ⟨y, hy, rfl⟩ := List.mem_map.1 hx
            exact (hL y hy).1
          have hln : ∀ L : List EnE, esz L ≤ 1048576 → (evs L).length ≤ 1000000 → True := fun _ _ _ => trivial
          have hlz : ∀ L : List EnE, esz L ≤ 400 → (evs L).length ≤ 1000000 := fun L hL => by rw [evs_len]; unfold esz at hL; omega
          have KEY : (ka = kb ∧ ca = cb ∧ ea = eb ∧ ta = tb ∧ sa = sb) ∧ evs Q1 = evs Q2 ↔ P1 = P2 := by
            constructor
            · rintro ⟨⟨rfl, rfl, rfl, rfl, rfl⟩, hE⟩
              rw [hp1, hp2, hE]
            · intro hP
              rw [hp1, hp2] at hP
              exact apart hr1 hr2 (hid Q0 HQ.out.1.2.2.1) (hid Q1 HQ.out.2.1.2.2.1) (hid Q2 HQ.out.2.2.2.2.1) (hlz Q0 h5) (hlz Q1 HZ.out.1) (hlz Q2 HZ.out.2) hk1 hk2 hP
          obtain ⟨r0, x0⟩ : ∃ r, ((ka : Int) == (kb : Int)) = r := ⟨_, rfl⟩
          obtain ⟨r1, x1⟩ : ∃ r, ((ca : Int) == (cb : Int)) = r := ⟨_, rfl⟩
          obtain ⟨r2, x2⟩ : ∃ r, ((ea : Int) == (eb : Int)) = r := ⟨_, rfl⟩
          obtain ⟨r3, x3⟩ : ∃ r, ((ta : Int) == (tb : Int)) = r := ⟨_, rfl⟩
          obtain ⟨r4, x4⟩ : ∃ r, ((sa : Int) == (sb : Int)) = r := ⟨_, rfl⟩
          have HK : Hid (decide (P1 = P2) = (r0 && r1 && r2 && r3 && r4 && decide (evs Q1 = evs Q2))) := by
            show _ = _
            rw [← x0, ← x1, ← x2, ← x3, ← x4, int_beq, int_beq, int_beq, int_beq, int_beq, Bool.eq_iff_iff]
            simp only [Bool.and_eq_true, decide_eq_true_eq, and_assoc]
            simp only [and_assoc] at KEY
            exact KEY.symm
          have q0 : ∀ f : FrOf w11, f.val.cell? ⟨ba, 0, none⟩ = some (.int .u8 (ka : Int)) := fun f => by have := H11.out.four.frCells f 0; simpa using this
          have q1 : ∀ f : FrOf w11, f.val.cell? ⟨ba, 1, none⟩ = some (.int .u8 (ca : Int)) := fun f => by have := H11.out.four.frCells f 1; simpa using this
          have q2 : ∀ f : FrOf w11, f.val.cell? ⟨ba, 2, none⟩ = some (.int .u32 (ea : Int)) := fun f => by have := H11.out.four.frCells f 2; simpa using this
          have q3 : ∀ f : FrOf w11, f.val.cell? ⟨ba, 3, none⟩ = some (.int .u32 (ta : Int)) := fun f => by have := H11.out.four.frCells f 3; simpa using this
          have q4 : ∀ f : FrOf w11, f.val.cell? ⟨ba, 4, none⟩ = some (.int .u32 (sa : Int)) := fun f => by have := H11.out.four.frCells f 4; simpa using this
          have y0 : ∀ f : FrOf w11, f.val.cell? ⟨ba + 1, 0, none⟩ = some (.int .u8 (kb : Int)) := fun f => by have := H11.out.three.frCells f 0; simpa using this
          have y1 : ∀ f : FrOf w11, f.val.cell? ⟨ba + 1, 1, none⟩ = some (.int .u8 (cb : Int)) := fun f => by have := H11.out.three.frCells f 1; simpa using this
          have y2 : ∀ f : FrOf w11, f.val.cell? ⟨ba + 1, 2, none⟩ = some (.int .u32 (eb : Int)) := fun f => by have := H11.out.three.frCells f 2; simpa using this
          have y3 : ∀ f : FrOf w11, f.val.cell? ⟨ba + 1, 3, none⟩ = some (.int .u32 (tb : Int)) := fun f => by have := H11.out.three.frCells f 3; simpa using this
          have y4 : ∀ f : FrOf w11, f.val.cell? ⟨ba + 1, 4, none⟩ = some (.int .u32 (sb : Int)) := fun f => by have := H11.out.three.frCells f 4; simpa using this
          have CS : Hid (∀ f : FrOf w11, Calls Tryd.prog 10 #[v1, v2] f.val fun e w' => e = .returned (.bool (decide (P1 = P2))) ∧ Fr Nobody f.val w') := fun f => same_dec f.val v1 v2 P1 P2 (Src.of_row (H11.out.quiet f.fr).two.row) (Src.of_row (H11.out.quiet f.fr).row) HR1.out.2.1 HR2.out.2.1
          have CE : Hid (∀ f : FrOf w11, Calls Tryd.prog 12 #[.slice a1 n1 c1, .slice a2 n2 c2] f.val fun e w' => e = .returned (.bool (decide (evs Q1 = evs Q2))) ∧ Fr Nobody f.val w') := fun f => sameEnts_any f.val a1 a2 n1 n2 c1 c2 Q1 Q2 (HQ.out.2.1.2.1.quiet (H11.out.fr.trans f.fr)) (HQ.out.2.2.2.1.quiet (H11.out.fr.trans f.fr)) HQ.out.2.1.1 HQ.out.2.2.1 (by have := HZ.out.1; omega) (by have := HZ.out.2; omega)
          have HF : Hid (Fr Nobody w w11) := H11.out.fr
          clear KEY hr1 hk1 hp1 hr2 hk2 hp2 hid hln hlz HR1 HR2 H11
          have hS : decide (P1 = P2) = (r0 && r1 && r2 && r3 && r4 && decide (evs Q1 = evs Q2)) := HK.out
          clear HK
          generalize decide (P1 = P2) = rS at *
          generalize decide (evs Q1 = evs Q2) = rE at *
          have hcs : (r0 = true ∧ r1 = true ∧ r2 = true ∧ r3 = true ∧ r4 = true) ∨ r0 = false ∨ (r0 = true ∧ r1 = false) ∨ (r0 = true ∧ r1 = true ∧ r2 = false) ∨ (r0 = true ∧ r1 = true ∧ r2 = true ∧ r3 = false) ∨ (r0 = true ∧ r1 = true ∧ r2 = true ∧ r3 = true ∧ r4 = false) := by
            cases r0 <;> cases r1 <;> cases r2 <;> cases r3 <;> cases r4 <;> simp
          rcases hcs with ⟨rfl, rfl, rfl, rfl, rfl⟩ | rfl | ⟨rfl, rfl⟩ | ⟨rfl, rfl, rfl⟩ | ⟨rfl, rfl, rfl, rfl⟩ | ⟨rfl, rfl, rfl, rfl, rfl⟩
          · have hS2 : rS = rE := hS.trans rfl
            subst hS2
            clear hS
            have zE : (rS == rS) = true := by simp
            go_wp2
            refine wp_region_fr (by kernel_rfl) (by kernel_rfl) ?_
            repeat (with_reducible refine wpQuiet_step (fun K hK => ?_)
                    go_simp
                    first
                      | (refine hK _ ?_; clear hK K)
                      | (apply Exists.intro
                         refine ⟨fun _ => ?_, hK _ ?_⟩
                         (first
                           | (go_at_call 10; with_reducible refine Calls.fr_of (CS.out _))
                           | (go_at_call 12; with_reducible refine Calls.fr_of (CE.out _)))
                         clear hK K))
            refine wpQuiet_nil ?_
            rintro w' ⟨f, rfl⟩
            go_wp2
            go_ret
            exact ⟨rfl, HF.out.trans f.fr⟩
          all_goals
            (have hS2 : rS = false := hS.trans rfl
             subst hS2
             clear hS
             go_wp2
             refine wp_region_fr (by kernel_rfl) (by kernel_rfl) ?_
             repeat (with_reducible refine wpQuiet_step (fun K hK => ?_)
                     go_simp
                     first
                       | (refine hK _ ?_; clear hK K)
                       | (apply Exists.intro
                          refine ⟨fun _ => ?_, hK _ ?_⟩
                          (go_at_call 10; with_reducible refine Calls.fr_of (CS.out _))
                          clear hK K))
             refine wpQuiet_nil ?_
             rintro w' ⟨f, rfl⟩
             go_wp2
             go_ret
             exact ⟨rfl, HF.out.trans f.fr⟩)
        · have z2 : ((cd2 : Int) != 0) = true := by simpa using e2
          have HF : Hid (Fr Nobody w w11) := H11.out.fr
          clear e2 H11 HR1 HR2
          go_wp2
          go_ret
          exact ⟨rfl, HF.out⟩
      · have z1 : ((cd1 : Int) != 0) = true := by simpa using e1
        have HF : Hid (Fr Nobody w w11) := H11.out.fr
        clear e1 H11 HR1 HR2
        go_wp2
        go_ret
        exact ⟨rfl, HF.out⟩
    · rw [decide_eq_false h5] at HF0
      go_wp2_with fail
      refine HF0.out.mono ?_
      rintro e w3 ⟨rfl, hf3⟩
      have HF : Hid (Fr Nobody w w3) := (H2.out.quiet hf3).fr
      clear hf3 HF0 H2
      go_wp2
      go_ret
      exact ⟨rfl, HF.out⟩
  · have h4' : (decide (esz Q1 ≤ 400) && decide (esz Q2 ≤ 400)) = false := by simpa using h4
    rw [h4'] at HFW
    clear h4 h4'
    go_wp2_with fail
    refine HFW.out.mono ?_
    rintro e w2 ⟨rfl, hf2⟩
    have HF : Hid (Fr Nobody w w2) := (H1.out.quiet hf2).fr
    clear hf2 HFW H1
    go_wp2
    go_ret
    exact ⟨rfl, HF.out⟩
theorem packetApart_walk (w : World) (ht : Tab w ∧ Tabf w) (k0 c0 e0 t0 s0 : Int) (w0 : HdOk k0 c0 e0 t0 s0) (k1 c1 e1 t1 s1 : Int) (w1 : HdOk k1 c1 e1 t1 s1) (a2 : Option Addr) (len2 cap2 : Nat) (z2 : List EnE) (w2 : IsEnts w a2 len2 cap2 z2) (hb2 : esz z2 ≤ 1048576) (a3 : Option Addr) (len3 cap3 : Nat) (z3 : List EnE) (w3 : IsEnts w a3 len3 cap3 z3) (hb3 : esz z3 ≤ 1048576) (a4 : Option Addr) (len4 cap4 : Nat) (z4 : List EnE) (w4 : IsEnts w a4 len4 cap4 z4) (hb4 : esz z4 ≤ 1048576) :
    Calls Tryd.prog 4 #[.agg (hdv k0 c0 e0 t0 s0), .agg (hdv k1 c1 e1 t1 s1), .slice a2 len2 cap2, .slice a3 len3 cap3, .slice a4 len4 cap4] w fun e w' => e = .returned (.bool true) ∧ Below w.heap.size w w' := by
  obtain ⟨_, _, _, _, _, h1, i1⟩ := w0.nats
  obtain ⟨_, _, _, _, _, h2, i2⟩ := w1.nats
  rw [h1, h2]
  refine (packetApart_fr w ht.1 ht.2 _ _ _ _ _ i1 _ _ _ _ _ i2 a2 len2 cap2 z2 (w2.inQ hb2) a3 len3 cap3 z3 (w3.inQ hb3) a4 len4 cap4 z4 (w4.inQ hb4)).mono ?_
  rintro e w' ⟨rfl, hf⟩
  exact ⟨rfl, hf.below (Nat.le_refl _) (fun _ _ h => h)⟩
end Go.Proofs.YtheafmecpnjdjaaDoor
