/-
  The document's Seal: steps.
-/
import Derived.Test.YtlncgkbgelejmaaGreatDoorPseg
import Derived.Test.YtlncgkbgelejmaaGreatDoorEodg
import Derived.Deep.RegionHeld3
import Derived.Test.YtlncgkbgelejmaaGreatDoorGkg
import Derived.Test.YtlncgkbgelejmaaGreatDoorEnkg
import Derived.Test.YtlncgkbgelejmaaGreatDoorEnbg
import Derived.OpenShut
import Derived.Test.YtlncgkbgelejmaaGreatDoorPrbg
import Derived.Test.YtlncgkbgelejmaaGreatDoorSjg
import Derived.Test.YtlncgkbgelejmaaGreatDoorPkig
import Derived.Test.YtlncgkbgelejmaaGreatDoorEnmg
import Derived.Test.YtlncgkbgelejmaaGreatDoorSc
import Derived.Test.YtlncgkbgelejmaaGreatDoorTie
import Derived.Test.YtlncgkbgelejmaaGreatDoorCards
import Derived.ProofKit
import Derived.LaidMore
import Derived.SevenTiedAt
import Derived.Stop.Joined
namespace Go.Proofs.YtlncgkbgelejmaaGreatDoor
open Go.RowKit
set_option linter.unusedVariables false
set_option maxRecDepth 100000

theorem spos : ∀ {k : Nat} {F G : Nat → Int}, chk k G = 0 → 0 < (sbs k F G (cnt k)).length := by
  intro k F G h
  have hc : 0 < cnt k := by
    have h6 := (chk_ok _ _ h).1
    have : ∀ j : Fin 6, 0 < cnt j.1 := by decide +kernel
    exact this ⟨k, h6⟩
  obtain ⟨m, hm⟩ : ∃ m, cnt k = m + 1 := ⟨cnt k - 1, by omega⟩
  rw [hm, sbs, List.length_append]
  have : 0 < (sb k F G m).length := by
    unfold sb
    split
    · simp [length_bitsN]
    · split <;> simp only [List.length_append, length_bitsN] <;> omega
  omega
theorem en_one {L : List En} (h : L.Pairwise (fun a b => a.1 < b.1)) {x y : En} (hx : x ∈ L) (hy : y ∈ L) (e : x.1 = y.1) : x = y := by
  induction L with
  | nil => cases hx
  | cons z t ih =>
    have h1 := List.pairwise_cons.1 h
    rcases List.mem_cons.1 hx with ex | hx'
    · rcases List.mem_cons.1 hy with ey | hy'
      · rw [ex, ey]
      · have := h1.1 y hy'; rw [ex] at e; omega
    · rcases List.mem_cons.1 hy with ey | hy'
      · have := h1.1 x hx'; rw [ey] at e; omega
      · exact ih h1.2 hx' hy'
theorem stpB_pos {A : List Cp} {q y : Cp} (hy : fst A q.k = some y) (h : chk q.k (f3 q.a q.b q.c) = 0) : 0 < (stpB A q).length := by
  unfold stpB
  rw [hy]
  exact spos h
set_option maxHeartbeats 16000000 in
theorem rseal_2 (w0 w : World) (l : List Thing) (h : Own w0 w l) (c e t s : Nat) (hI : HIn 2 c e t s) (hc : hchk 2 c e t s = 0) (aw an : Option Addr) (nw nn cw cn : Nat) (W N : List EnE) (hQ : ∀ w', Own w0 w' l → EntsAt w' aw W ∧ EntsAt w' an N) (hW : W.length = nw) (hN : N.length = nn) (hIW : EIn W) (hIN : EIn N) (hzW : esz W ≤ 400) (hzN : esz N ≤ 400) :
    Calls Tryz.prog 6 #[.agg (hvs 2 c e t s), .slice aw nw cw, .slice an nn cn] w fun x w' => ∃ v code P, x = .returned (.tuple #[v, .int .i64 ((code : Nat) : Int)]) ∧ SealR 2 c e t s (evs W) (evs N) code P ∧ Own w0 w' (Row 5 1 v P.length (vrow P) :: l) := by
  have hR := right_of hI hc
  have hB := h.allocC (hvs 2 c e t s) 24
  have HCH : Hid (Calls _ _ _ _ _) := hrcheck_any (w.alloc (.cells (hvs 2 c e t s) 24)) 2 c e t s hI
  rw [hc] at HCH
  have HB : Hid (Own w0 _ _) := hB
  have HR : Hid (Right 2 c e t s) := hR
  have zz : ∀ X : List EnE, (evs X).length + cszV (evs X) = esz X := fun X => by rw [evs_len, cszV_evs]; rfl
  have HCL : Hid (ccode 2 (evs W) (evs N) = 0 → (headB 2 c e t s ++ contB 2 (evs W) (evs N)).length ≤ 401000 ∧ 0 < (headB 2 c e t s ++ contB 2 (evs W) (evs N)).length) := fun hc => by
    have h1 := contB_le (k := 2) (W := evs W) (N := evs N) (fun x hx => by
      obtain ⟨y, hy, rfl⟩ := List.mem_map.1 hx
      exact (hIW y hy).1) (fun x hx => by
      obtain ⟨y, hy, rfl⟩ := List.mem_map.1 hx
      exact (hIN y hy).1) (by rw [zz]; exact hzW) (by rw [zz]; exact hzN) hc
    have h2 := headB_le 2 c e t s hI.e hI.t
    have h3 : 3 ≤ (headB 2 c e t s).length := by unfold headB; simp only [List.length_append, length_bitsN, wid15]; omega
    rw [List.length_append]
    omega
  have HSR : Hid (∀ code, code < 4294967296 → code ≠ 0 → SealR 2 c e t s (evs W) (evs N) code []) := fun code => sealR_no
  have HSY : Hid (∀ P, (∀ x ∈ P, x < 256) → ccode 2 (evs W) (evs N) = 0 → P = frm (pack (headB 2 c e t s ++ contB 2 (evs W) (evs N))) → P.length ≤ 4100 → SealR 2 c e t s (evs W) (evs N) 0 P) := fun P h1 h3 h4 h5 => ⟨by decide, h1, fun _ => ⟨HR.out, h3, h4, h5⟩⟩
  have HQ : Hid ((∀ w', Own w0 w' l → EntsAt w' aw W ∧ EntsAt w' an N) ∧ W.length = nw ∧ N.length = nn ∧ EIn W ∧ EIn N ∧ esz W ≤ 400 ∧ esz N ≤ 400) := ⟨hQ, hW, hN, hIW, hIN, hzW, hzN⟩
  have HIH : Hid (HIn 2 c e t s) := hI
  have q0 := hB.cell 0
  have q1 := hB.cell 1
  have q2 := hB.cell 2
  have q3 := hB.cell 3
  have q4 := hB.cell 4
  simp [hvs] at q0 q1 q2 q3 q4
  have hn8 : nn ≤ 400 := by unfold esz at hzN; omega
  clear h hB hR hQ hW hN hIW hIN hzW hzN zz hc hI
  unfold hvs at HCH ⊢
  go_enter Tryz.func6, Tryz.ntmps6
  go_wp2_with fail
  refine HCH.out.mono ?_
  rintro x w1 ⟨rfl, hf1⟩
  have h1 := HB.out.quiet hf1
  have HHD : Hid (Calls Tryz.prog 16 #[.agg #[.int .u8 2, .int .u8 (c : Int), .int .u32 (e : Int), .int .u32 (t : Int), .int .u32 (s : Int)]] _ _) := rhead w0 w1 _ h1 2 c e t s HR.out
  have p0 := h1.cell 0
  have p1 := h1.cell 1
  have p2 := h1.cell 2
  have p3 := h1.cell 3
  have p4 := h1.cell 4
  simp [hvs] at p0 p1 p2 p3 p4
  clear hf1 h1 HCH HB q0 q1 q2 q3 q4
  generalize w.heap.size = bh at *
  go_wp2_with fail
  refine HHD.out.mono ?_
  rintro x w2 ⟨v2, rfl, h2⟩
  have r0 := h2.two.cell 0
  simp [hvs] at r0
  clear HHD p0 p1 p2 p3 p4
  have HDF : Hid (Calls _ _ _ _ _) := rdiff_any w0 w2 _ h2 aw an nw nn cw cn W N (fun w' hw => HQ.out.1 w' hw.tail.tail) HQ.out.2.1 HQ.out.2.2.1 HQ.out.2.2.2.1 HQ.out.2.2.2.2.1 (by have := HQ.out.2.2.2.2.2.1; omega) (by have := HQ.out.2.2.2.2.2.2; omega)
  have hdl : dcode (evs W) (evs N) < 4294967296 := ccode_lt 2 (evs W) (evs N)
  have HCC : Hid (ccode 2 (evs W) (evs N) = dcode (evs W) (evs N)) := rfl
  clear h2
  by_cases hd0 : dcode (evs W) (evs N) = 0
  · obtain ⟨a1, a2⟩ := dcode_0 hd0
    have HD0 : Hid (dcode (evs W) (evs N) = 0 ∧ fm 0 (evs W) = 0 ∧ fm 0 (evs N) = 0) := ⟨hd0, a1, a2⟩
    rw [hd0] at HDF
    clear hd0 a1 a2 hdl
    have z0 : ((0 : Int) != 0) = false := rfl
    go_wp2_with fail
    refine HDF.out.mono ?_
    rintro x w3 ⟨d, rfl, hdv, h3⟩
    have hdv2 : d.v = btw (evs W) (evs N) := by rw [hdv]; unfold dlv; rw [if_pos HD0.out.1]
    have hok := dtOk_of HD0.out.2.1 HD0.out.2.2 HQ.out.2.2.2.1 HQ.out.2.2.2.2.1 hdv2
    have hds := dsz_of HD0.out.2.1 HD0.out.2.2 hdv2
    have hds2 : dsz d ≤ 2000 := by have h1 := HQ.out.2.2.2.2.2.1; have h2 := HQ.out.2.2.2.2.2.2; omega
    have h5 := (h3.lift.allocC #[.slice d.ga d.G.length d.gc, .slice d.ma d.M.length d.mc, .slice d.ha d.H.length d.hc] 53).two
    unfold DlE.vs
    obtain ⟨bd, hbd⟩ : ∃ bd, bd = w3.heap.size := ⟨_, rfl⟩
    rw [← hbd] at h5
    obtain ⟨LB, hLB⟩ : ∃ LB, LB = (Cells bd #[.slice d.ga d.G.length d.gc, .slice d.ma d.M.length d.mc, .slice d.ha d.H.length d.hc] 53 :: (d.things ++ (Cells bh (hvs 2 c e t s) 24 :: l)) : List Thing) := ⟨_, rfl⟩
    have h6 : Own w0 (w3.alloc (.cells #[.slice d.ga d.G.length d.gc, .slice d.ma d.M.length d.mc, .slice d.ha d.H.length d.hc] 53)) (BT v2 (headB 2 c e t s) :: LB) := by rw [hLB]; exact h5
    have HBD : Hid (∀ w', Own w0 w' LB → w'.cell? ⟨bd, 0, none⟩ = some (.slice d.ga d.G.length d.gc) ∧ w'.cell? ⟨bd, 1, none⟩ = some (.slice d.ma d.M.length d.mc) ∧ w'.cell? ⟨bd, 2, none⟩ = some (.slice d.ha d.H.length d.hc)) := fun w' hw => by
      rw [hLB] at hw
      have y0 := hw.cell 0
      have y1 := hw.cell 1
      have y2 := hw.cell 2
      simp at y0 y1 y2
      exact ⟨y0, y1, y2⟩
    have HDA : Hid (∀ w', Own w0 w' LB → DlAt w' d ∧ EntsAt w' aw W ∧ Own w0 w' l) := fun w' hw => by
      rw [hLB] at hw
      exact ⟨hw.tail.dlAt, (HQ.out.1 w' hw.tail.dropA.tail).1, hw.tail.dropA.tail⟩
    have HOK : Hid (DtOk (evs W) d ∧ d.v = btw (evs W) (evs N)) := ⟨hok, hdv2⟩
    have hg1 : d.G.length ≤ 2000 := by unfold dsz at hds2; omega
    have hg2 : esz d.M ≤ 2000 := by unfold dsz at hds2; omega
    have hg3 : d.H.length + chz (d.H.map ChE.v) ≤ 2000 := by unfold dsz at hds2; omega
    have hg4 : d.M.length ≤ 2000 := by unfold esz at hg2; omega
    have hhl := headB_le 2 c e t s HIH.out.e HIH.out.t
    have HHL : Hid ((headB 2 c e t s).length ≤ 300) := hhl
    have HVL : Hid (∀ n, n ≤ 2000 → (var n).length ≤ 80) := fun n hn => by rw [length_var]; have := (grp_bd n (by omega)).2; omega
    have b0 := HBD.out _ h6.tail
    obtain ⟨b1, b2, b3⟩ := b0
    have HV1 : Hid (Calls Tryz.prog 20 #[.int .u64 (d.G.length : Int)] _ _) := rvarT w0 _ _ h6 d.G.length (by omega)
    clear hLB h3 h5 h6 hdv hdv2 hok hds hds2 hhl HDF r0
    generalize headB 2 c e t s = L0 at *
    subst hbd
    go_wp2_with fail
    refine HV1.out.mono ?_
    rintro x w4 ⟨v4, rfl, h7⟩
    generalize w3.heap.size = bd at *
    have H7 : Hid (Own w0 w4 (BT v4 (var d.G.length) :: BT v2 L0 :: LB)) := h7
    have hvp := var_pos d.G.length
    have hvl := HVL.out d.G.length (by omega)
    have hl0 := HHL.out
    clear h7 HV1 b1 b2 b3
    go_wp2_with (at_builtin; refine app_bits rfl _ _ rfl v2 v4 L0 (var d.G.length) H7.out hvp (by omega) rfl rfl ?_; intro v5 w5 h8; have H8 : Hid (Own w0 w5 (BT v5 (L0 ++ var d.G.length) :: LB)) := h8; have b1 := (HBD.out w5 h8.tail).1; clear h8)
    clear H7 b1
    go_loopw [9, 13, 65] (fun x9 v13 cc wr => ∃ (j : Nat) (v9 : Value), j ≤ d.G.length ∧ cc = .int .i64 (j : Int) ∧ v9 = x9 ∧ v13 = .int .u32 ((lastI 0 (d.G.take j) : Nat) : Int) ∧ Own w0 wr (BT v9 ((L0 ++ var d.G.length) ++ idsB 0 (d.G.take j)) :: LB)) (fun _ _ cc _ => d.G.length - (intOf cc).toNat)
    case atStart => exact ⟨0, _, Nat.zero_le _, rfl, rfl, rfl, by simpa [idsB] using H8.out⟩
    case round =>
      obtain ⟨j, v9, hj, rfl, rfl, rfl, hO⟩ := hrel
      clear H8
      by_cases hlt : j < d.G.length
      · obtain ⟨i, hi⟩ : ∃ i, d.G[j]? = some i := ⟨_, List.getElem?_eq_getElem hlt⟩
        obtain ⟨g, o, hga, hcl⟩ := (HDA.out wr hO.tail).1.g.at hi
        have hlt' : (j : Int) < (d.G.length : Int) := by omega
        have htk : d.G.take (j + 1) = d.G.take j ++ [i] := by rw [List.take_add_one, hi]; rfl
        have hil := (HOK.out.1.g1 i (List.mem_of_getElem? hi)).2
        have hla : lastI 0 (d.G.take j) < i := lastI_lt (by rw [← htk]; exact HOK.out.1.gu.sublist (List.take_sublist _ _)) (fun x hx => (HOK.out.1.g1 x (by rw [← htk] at hx; exact List.mem_of_mem_take hx)).1)
        have hil2 := idsB_le 0 (d.G.take j) (fun x hx => (HOK.out.1.g1 x (List.mem_of_mem_take hx)).2)
        have HP : Hid (Calls _ _ _ _ _) := rid w0 wr LB v9 _ (lastI 0 (d.G.take j)) i hO hla hil (by rw [List.length_take] at hil2; rw [List.length_append, List.length_append]; omega)
        have HT : Hid (lastI 0 (d.G.take (j + 1)) = i ∧ idsB 0 (d.G.take (j + 1)) = idsB 0 (d.G.take j) ++ idB (lastI 0 (d.G.take j)) i) := by rw [htk]; exact ⟨lastI_snoc _ _ _, idsB_snoc _ _ _⟩
        rw [hga]
        generalize lastI 0 (d.G.take j) = la at *
        clear hO htk hi hil2
        go_wp2_with fail
        refine HP.out.mono ?_
        rintro x w6 ⟨v6, rfl, h9⟩
        have H9 : Hid (Own w0 w6 (BT v6 ((L0 ++ var d.G.length) ++ idsB 0 (d.G.take (j + 1))) :: LB)) := by
          show Own _ _ _
          rw [HT.out.2, ← List.append_assoc]; exact h9
        clear h9 HP
        go_wp2
        go_roundw
        case rel => exact ⟨j + 1, _, by omega, by go_num, rfl, by rw [HT.out.1], H9.out⟩
        case measure => simp [intOf]; omega
      · have hj2 : j = d.G.length := by omega
        subst hj2
        have hlt' : ¬ (d.G.length : Int) < (d.G.length : Int) := by omega
        rw [List.take_of_length_le (Nat.le_refl _)] at hO
        obtain ⟨L1, hL1⟩ : ∃ L1, L1 = (L0 ++ var d.G.length) ++ idsB 0 d.G := ⟨_, rfl⟩
        rw [← hL1] at hO
        have HL1 : Hid (L1 = (L0 ++ var d.G.length) ++ idsB 0 d.G) := hL1
        have hl1 : L1.length ≤ 170000 := by
          have := idsB_le 0 d.G (fun x hx => (HOK.out.1.g1 x hx).2)
          rw [hL1, List.length_append, List.length_append]
          omega
        have b2 := (HBD.out wr hO.tail).2.1
        have HEN : Hid (Calls _ _ _ _ _) := rents w0 wr LB v9 L1 d.ma d.M.length d.mc d.M hO (fun w' hw => (HDA.out w' hw).1.m) rfl HOK.out.1.mi HOK.out.1.mu HOK.out.1.mo (by omega)
        clear hO hL1 hlt
        go_wp2_with fail
        refine HEN.out.mono ?_
        rintro x w6 ⟨v6, rfl, h9⟩
        obtain ⟨L2, hL2⟩ : ∃ L2, L2 = (L1 ++ var d.M.length) ++ entsB 0 (evs d.M) := ⟨_, rfl⟩
        rw [← hL2] at h9
        have HL2 : Hid (L2 = (L1 ++ var d.M.length) ++ entsB 0 (evs d.M)) := hL2
        have hl2 : L2.length ≤ 400000 := by
          have h1 := entsB_le 0 (evs d.M) (fun x hx => by
            obtain ⟨y, hy, rfl⟩ := List.mem_map.1 hx
            exact (HOK.out.1.mi y hy).1)
          have h2 := HVL.out d.M.length (by omega)
          rw [evs_len, cszV_evs] at h1
          unfold esz at hg2
          rw [hL2, List.length_append, List.length_append]
          omega
        have b3 := (HBD.out w6 h9.tail).2.2
        have HV2 : Hid (Calls Tryz.prog 20 #[.int .u64 (d.H.length : Int)] _ _) := rvarT w0 w6 _ h9 d.H.length (by omega)
        clear h9 hL2 HEN b2
        go_wp2_with fail
        refine HV2.out.mono ?_
        rintro x w7 ⟨v7, rfl, h10⟩
        have H10 : Hid (Own w0 w7 (BT v7 (var d.H.length) :: BT v6 L2 :: LB)) := h10
        have hvp2 := var_pos d.H.length
        have hvl2 := HVL.out d.H.length (by omega)
        clear h10 HV2 b3
        go_wp2_with (at_builtin; refine app_bits rfl _ _ rfl v6 v7 L2 (var d.H.length) H10.out hvp2 (by omega) rfl rfl ?_; intro v8 w8 h11; have H11 : Hid (Own w0 w8 (BT v8 (L2 ++ var d.H.length) :: LB)) := h11; have b3 := (HBD.out w8 h11.tail).2.2; clear h11)
        clear H10 b3
        go_loopw [9, 13, 89] (fun x9 v13 cc wr => ∃ (k : Nat) (v9 : Value), k ≤ d.H.length ∧ cc = .int .i64 (k : Int) ∧ v9 = x9 ∧ v13 = .int .u32 ((lastI 0 (((d.H.map ChE.v).take k).map (·.id)) : Nat) : Int) ∧ Own w0 wr (BT v9 ((L2 ++ var d.H.length) ++ chgsB (evs W) 0 ((d.H.map ChE.v).take k)) :: LB)) (fun _ _ cc _ => d.H.length - (intOf cc).toNat)
        case atStart => exact ⟨0, _, Nat.zero_le _, rfl, rfl, rfl, by simpa [chgsB] using H11.out⟩
        case round =>
          obtain ⟨k, v9, hk, rfl, rfl, rfl, hO⟩ := hrel
          clear H11
          by_cases hlt : k < d.H.length
          · obtain ⟨x, hx⟩ : ∃ x, d.H[k]? = some x := ⟨_, List.getElem?_eq_getElem hlt⟩
            obtain ⟨g, o, hga, ⟨c0, c1, c2, c3⟩, -, -⟩ := (HDA.out wr hO.tail).1.h.at hx
            have hlt' : (k : Int) < (d.H.length : Int) := by omega
            have hxe : (d.H.map ChE.v)[k]? = some x.v := by rw [List.getElem?_map, hx]; rfl
            have htk : (d.H.map ChE.v).take (k + 1) = (d.H.map ChE.v).take k ++ [x.v] := by rw [List.take_add_one, hxe]; rfl
            have hco := HOK.out.1.ho x (List.mem_of_getElem? hx)
            have hmm : (d.H.map ChE.v).map (·.id) = d.H.map (·.id) := by rw [List.map_map]; rfl
            have hla : lastI 0 (((d.H.map ChE.v).take k).map (·.id)) < x.id := by
              have hP : (((d.H.map ChE.v).take (k + 1)).map (·.id)).Pairwise (· < ·) := by rw [List.map_take, hmm]; exact HOK.out.1.hu.sublist (List.take_sublist _ _)
              rw [htk, List.map_append] at hP
              refine lastI_lt hP (fun y hy => ?_)
              have hy2 : y ∈ ((d.H.map ChE.v).take (k + 1)).map (·.id) := by rw [htk, List.map_append]; exact hy
              obtain ⟨z, hz, rfl⟩ := List.mem_map.1 hy2
              obtain ⟨z', hz', rfl⟩ := List.mem_map.1 (List.mem_of_mem_take hz)
              exact (HOK.out.1.ho z' hz').id0
            have hsz := chgsB_le (evs W) 0 ((d.H.map ChE.v).take k) (fun z hz => by
              obtain ⟨y, hy, rfl⟩ := List.mem_map.1 (List.mem_of_mem_take hz)
              exact (HOK.out.1.ho y hy).id32)
            rw [List.length_take] at hsz
            have hcz := chz_take (d.H.map ChE.v) hxe
            have hcz2 : x.N.length + x.S.length ≤ 2000 := by have : (x.v.new.length + x.v.set.length) = x.N.length + x.S.length := rfl; omega
            have hib := idB_le (lastI 0 (((d.H.map ChE.v).take k).map (·.id))) x.id hco.id32
            obtain ⟨e0, he0⟩ := hco.there
            obtain ⟨m0, y0, hym, hyi, hyc⟩ := fstE_at he0
            have hb1 : g < wr.heap.size := World.block_lt_of_cell? wr _ c0
            have hb2 : wr.heap.size ≠ g := by omega
            have hB := (hO.allocC #[.int .u32 (x.id : Int), .int .u8 (x.lost : Int), .slice x.na x.N.length x.nc, .slice x.sa x.S.length x.sc] 62).two
            have hb0 : ((L2 ++ var d.H.length) ++ chgsB (evs W) 0 ((d.H.map ChE.v).take k)).length ≤ 700000 := by
              rw [List.length_append, List.length_append]; omega
            have HP : Hid (Calls _ _ _ _ _) := rid w0 _ _ v9 _ (lastI 0 (((d.H.map ChE.v).take k).map (·.id))) x.id hB hla hco.id32 (by omega)
            have HT2 : Hid (lastI 0 (((d.H.map ChE.v).take (k + 1)).map (·.id)) = x.id ∧ chgsB (evs W) 0 ((d.H.map ChE.v).take (k + 1)) = chgsB (evs W) 0 ((d.H.map ChE.v).take k) ++ chgB (evs W) (lastI 0 (((d.H.map ChE.v).take k).map (·.id))) x.v) := by
              rw [htk]
              exact ⟨by rw [List.map_append]; exact lastI_snoc _ _ _, chgsB_snoc _ _ _ _⟩
            have HCB : Hid (∀ a, chgB (evs W) a x.v = idB a x.id ++ (bitsN 5 x.lost ++ (bitsN 5 (msk x.N) ++ (bitsN 5 (msk x.S) ++ (cpsB x.N ++ stpsB y0.C x.S))))) := fun a => by unfold chgB; rw [hyc.symm]; rfl
            have HMN : Hid (∀ Z X, Own w0 Z (X ++ LB) → Calls Tryz.prog 23 #[.slice x.na x.N.length x.nc] Z fun e w' => e = .returned (.int .u8 ((msk x.N : Nat) : Int)) ∧ Own w0 w' (X ++ LB)) := fun Z X hX => by
              obtain ⟨_, _, _, _, hn1, _⟩ := (HDA.out Z hX.dropA).1.h.at hx
              refine (rmask_any Z x.na x.N.length x.nc x.N rfl hn1 (fun q hq => (hco.kn q hq).1) (by omega)).mono ?_
              rintro e w' ⟨rfl, hf⟩
              exact ⟨rfl, hX.quiet hf⟩
            have HMS : Hid (∀ Z X, Own w0 Z (X ++ LB) → Calls Tryz.prog 23 #[.slice x.sa x.S.length x.sc] Z fun e w' => e = .returned (.int .u8 ((msk x.S : Nat) : Int)) ∧ Own w0 w' (X ++ LB)) := fun Z X hX => by
              obtain ⟨_, _, _, _, _, hs1⟩ := (HDA.out Z hX.dropA).1.h.at hx
              refine (rmask_any Z x.sa x.S.length x.sc x.S rfl hs1 hco.ks (by omega)).mono ?_
              rintro e w' ⟨rfl, hf⟩
              exact ⟨rfl, hX.quiet hf⟩
            have HMP : Hid (∀ Z u M X (q : Nat), Own w0 Z (BT u M :: X :: LB) → q < 32 → M.length + 5 ≤ 1048576 → Calls Tryz.prog 22 #[u, .int .u64 (q : Int), .int .i64 5] Z fun e w' => ∃ u', e = .returned (.tuple #[u', .int .i64 0]) ∧ Own w0 w' (BT u' (M ++ bitsN 5 q) :: X :: LB)) := fun Z u M X q hZ hq hM => rputT w0 Z _ u M q 5 hZ (by decide) hq (by omega) hM
            have HCP : Hid (∀ Z u M X, Own w0 Z (BT u M :: X :: LB) → M.length + 60 * x.N.length + 200 ≤ 1048576 → Calls Tryz.prog 24 #[u, .slice x.na x.N.length x.nc] Z fun e w' => ∃ u', e = .returned u' ∧ Own w0 w' (BT u' (M ++ cpsB x.N) :: X :: LB)) := fun Z u M X hZ hM => rcomps w0 Z _ u M x.na x.N.length x.nc x.N hZ (fun w' hw' => by
                obtain ⟨_, _, _, _, hn1, _⟩ := (HDA.out w' hw'.tail).1.h.at hx
                exact hn1) rfl (fun q hq => (hco.kn q hq).1) (fun q hq => (hco.kn q hq).2) hM
            have HSC : Hid (∀ Z, Own w0 Z LB → Cs Z x.sa x.S) := fun Z hZ => by
              obtain ⟨_, _, _, _, _, hs1⟩ := (HDA.out Z hZ).1.h.at hx
              exact hs1
            have HSK : Hid ((∀ q ∈ x.S, q.k < 256) ∧ ∀ q ∈ x.S, ∃ y, fst y0.C q.k = some y ∧ chk q.k (f3 y.a y.b y.c) = 0 ∧ chk q.k (f3 q.a q.b q.c) = 0) := ⟨hco.ks, fun q hq => by
              have := hco.st q hq
              rw [show wasC (evs W) x.v.id = y0.C from hyc] at this
              exact this⟩
            have HY0 : Hid (y0 ∈ W ∧ y0.id = x.id) := ⟨List.mem_of_getElem? hym, hyi⟩
            have HCO : Hid (x.lost < 32 ∧ msk x.N < 32 ∧ msk x.S < 32) := ⟨hco.lost, hco.mn, hco.ms⟩
            have hid32 : x.id < 4294967296 := hco.id32
            have hlost : x.lost < 32 := hco.lost
            have hcpl := cpsB_le x.N
            obtain ⟨la, hlaE⟩ : ∃ la, la = lastI 0 (((d.H.map ChE.v).take k).map (·.id)) := ⟨_, rfl⟩
            rw [← hlaE] at HP HT2 hib
            rw [← hlaE]
            have HT3 : Hid ((L2 ++ var d.H.length) ++ chgsB (evs W) 0 ((d.H.map ChE.v).take (k + 1)) = ((L2 ++ var d.H.length) ++ chgsB (evs W) 0 ((d.H.map ChE.v).take k)) ++ chgB (evs W) la x.v) := by show _ = _; rw [HT2.out.2, List.append_assoc, List.append_assoc, List.append_assoc]
            have HT4 : Hid (lastI 0 (((d.H.map ChE.v).take (k + 1)).map (·.id)) = x.id) := HT2.out.1
            clear HT2
            clear hO hla hlaE htk hco hsz hcz hxe hmm hB hx he0 hym hyi hyc
            obtain ⟨xi, xl, xN, xna, xnc, xS, xsa, xsc⟩ := x
            simp only at c0 c1 c2 c3 HP HT3 HT4 HCB HMN HMS HMP HCP HSC HSK HY0 HCO hid32 hlost hib hcz2 hcpl
            obtain ⟨nl, hnl⟩ : ∃ nl, nl = xN.length := ⟨_, rfl⟩
            rw [← hnl] at c2 HP HMN HCP hcz2 hcpl
            obtain ⟨sl, hsl⟩ : ∃ sl, sl = xS.length := ⟨_, rfl⟩
            rw [← hsl] at c3 HP HMS hcz2
            have HSL : Hid (sl = xS.length) := hsl
            have hmN := HCO.out.2.1
            have hmS := HCO.out.2.2
            clear hnl hsl
            generalize msk xN = mN at *
            generalize msk xS = mS at *
            rw [hga]
            generalize (L2 ++ var d.H.length) ++ chgsB (evs W) 0 ((d.H.map ChE.v).take k) = M0 at *
            go_wp2_with fail
            refine HP.out.mono ?_
            rintro x w9 ⟨u9, rfl, h9⟩
            obtain ⟨bx, hbx⟩ : ∃ bx, bx = wr.heap.size := ⟨_, rfl⟩
            rw [← hbx] at h9
            rw [← hbx]
            have r0 := h9.two.cell 0
            have r1 := h9.two.cell 1
            simp at r0 r1
            have HM1 : Hid (Calls _ _ _ _ _) := HMP.out w9 _ _ _ xl h9 HCO.out.1 (by rw [List.length_append]; omega)
            clear h9 HP c0 c1 c2 c3 hb1 hb2 hbx
            go_wp2_with fail
            refine HM1.out.mono ?_
            rintro x w10 ⟨u10, rfl, h10⟩
            have r2 := h10.two.cell 2
            simp at r2
            have HM2 : Hid (Calls _ _ _ _ _) := HMN.out w10 [_, _] h10
            clear h10 HM1 r0 r1
            go_wp2_with fail
            refine HM2.out.mono ?_
            rintro x w11 ⟨rfl, h11⟩
            have HM3 : Hid (Calls _ _ _ _ _) := HMP.out w11 _ _ _ mN h11 HCO.out.2.1 (by simp only [List.length_append, length_bitsN]; omega)
            clear h11 HM2 r2
            go_wp2_with fail
            refine HM3.out.mono ?_
            rintro x w12 ⟨u12, rfl, h12⟩
            have r3 := h12.two.cell 3
            simp at r3
            have HM4 : Hid (Calls _ _ _ _ _) := HMS.out w12 [_, _] h12
            clear h12 HM3
            go_wp2_with fail
            refine HM4.out.mono ?_
            rintro x w13 ⟨rfl, h13⟩
            have HM5 : Hid (Calls _ _ _ _ _) := HMP.out w13 _ _ _ mS h13 HCO.out.2.2 (by simp only [List.length_append, length_bitsN]; omega)
            clear h13 HM4 r3
            go_wp2_with fail
            refine HM5.out.mono ?_
            rintro x w14 ⟨u14, rfl, h14⟩
            have r4 := h14.two.cell 2
            simp at r4
            have HM6 : Hid (Calls _ _ _ _ _) := HCP.out w14 _ _ _ h14 (by simp only [List.length_append, length_bitsN]; omega)
            clear h14 HM5
            go_wp2_with fail
            refine HM6.out.mono ?_
            rintro x w15 ⟨u15, rfl, h15⟩
            obtain ⟨M8, hM8⟩ : ∃ M, M = M0 ++ idB la xi ++ bitsN 5 xl ++ bitsN 5 mN ++ bitsN 5 mS ++ cpsB xN := ⟨_, rfl⟩
            rw [← hM8] at h15
            have HM8 : Hid (M8 = M0 ++ idB la xi ++ bitsN 5 xl ++ bitsN 5 mN ++ bitsN 5 mS ++ cpsB xN) := hM8
            have hl8 : M8.length ≤ 850000 := by
              rw [hM8]
              simp only [List.length_append, length_bitsN]
              omega
            have r3 := h15.two.cell 3
            simp at r3
            have H15 : Hid (Own w0 w15 _) := h15
            clear hM8 h15 HM6 r4 HMN HMS HMP HCP
            go_wp2
            clear r3
            go_loopw [9, 133] (fun x9 cc wz => ∃ (j : Nat) (vj : Value), j ≤ sl ∧ cc = .int .i64 (j : Int) ∧ vj = x9 ∧ Own w0 wz (BT vj (M8 ++ stpsB y0.C (xS.take j)) :: Cells bx #[.int .u32 (xi : Int), .int .u8 (xl : Int), .slice xna nl xnc, .slice xsa sl xsc] 62 :: LB)) (fun _ cc _ => sl - (intOf cc).toNat)
            case atStart => exact ⟨0, _, Nat.zero_le _, rfl, rfl, by simpa [stpsB] using H15.out⟩
            case round =>
              obtain ⟨j, vj, hj, rfl, rfl, hO⟩ := hrel
              clear H15
              by_cases hjl : j < sl
              · obtain ⟨q, hq⟩ : ∃ q, xS[j]? = some q := ⟨_, List.getElem?_eq_getElem (by rw [← HSL.out]; exact hjl)⟩
                obtain ⟨gq, oq, hgq, -, e0, e1, e2, e3⟩ := (HSC.out wr hO.tail.tail).at j q hq
                have hjl' : (j : Int) < (sl : Int) := by omega
                have hq8 := HSK.out.1 q (List.mem_of_getElem? hq)
                obtain ⟨y, hy, hy0, hq0⟩ := HSK.out.2 q (List.mem_of_getElem? hq)
                have hyk : y.k = q.k := (fst_some hy).2
                have hb1 : gq < wr.heap.size := World.block_lt_of_cell? wr _ e0
                have hb2 : wr.heap.size ≠ gq := by omega
                have hcl := stpsB_le y0.C (xS.take j)
                rw [List.length_take] at hcl
                have hstp := stpB_le y0.C q
                have hsp := stpB_pos hy hq0
                have hB := hO.allocC #[.int .u8 (q.k : Int), .int .i32 q.a, .int .i32 q.b, .int .i32 q.c] 69
                have u0 := hB.three.cell 0
                simp at u0
                have HFE : Hid (Calls _ _ _ _ _) := rfindE_any _ aw nw cw W ((HDA.out _ hB.tail.tail.tail).2.1) HQ.out.2.1 (by have h1 := HQ.out.2.2.2.2.2.1; have h2 := HQ.out.2.1; unfold esz at h1; omega) xi
                have HB : Hid (Own w0 _ _) := hB
                have HTK : Hid (M8 ++ stpsB y0.C (xS.take (j + 1)) = (M8 ++ stpsB y0.C (xS.take j)) ++ stpB y0.C q) := by
                  show _ = _
                  rw [List.take_add_one, hq, stpsB_app, List.append_assoc]; simp [stpsB]
                have hlj : (M8 ++ stpsB y0.C (xS.take j)).length ≤ 1000000 := by rw [List.length_append]; omega
                have HST : Hid (∀ Z X, Own w0 Z X → Calls Tryz.prog 26 #[.agg #[.int .u8 (y.k : Int), .int .i32 y.a, .int .i32 y.b, .int .i32 y.c], .agg #[.int .u8 (q.k : Int), .int .i32 q.a, .int .i32 q.b, .int .i32 q.c]] Z fun e w' => ∃ u, e = .returned (.tuple #[u, .int .i64 0]) ∧ Own w0 w' (BT u (stpB y0.C q) :: X)) := fun Z X hZ => by
                  have e1 : stpB y0.C q = sbs q.k (f3 y.a y.b y.c) (f3 q.a q.b q.c) (cnt q.k) := by unfold stpB; rw [hy]
                  rw [e1, hyk]
                  exact rstepT w0 Z X hZ q.k hq8 (f3 y.a y.b y.c) (f3 q.a q.b q.c) hy0 hq0
                have HYF : Hid (fst y0.C q.k = some y) := hy
                have hq6 : q.k < 6 := (chk_ok _ _ hq0).1
                clear hO hB hcl hy hy0 hq0 hq hyk
                obtain ⟨qk, qa, qb, qc⟩ := q
                simp only at e0 e1 e2 e3 hq8 HTK HST HYF HB hstp hsp hq6
                generalize stpB y0.C ⟨qk, qa, qb, qc⟩ = S1 at *
                generalize M8 ++ stpsB y0.C (xS.take j) = Mj at *
                subst hgq
                go_wp2_with fail
                refine HFE.out.mono ?_
                rintro x w16 ⟨r, rfl, hfr, hf16⟩
                have h16 := HB.out.quiet hf16
                clear HB hf16 HFE u0 e0 e1 e2 e3 hb1 hb2
                obtain ⟨bq, hbq⟩ : ∃ bq, bq = wr.heap.size := ⟨_, rfl⟩
                rw [← hbq] at h16
                rw [← hbq]
                clear hbq
                rcases hfr with ⟨rfl, hno⟩ | ⟨m, yy, rfl, hyy, hyyi, -⟩
                · exact absurd HY0.out.2 (hno y0 HY0.out.1)
                · have hsW := Snap.of HD0.out.2.1
                  have hyC : yy.C = y0.C := by
                    have := en_one hsW.up (List.mem_map.2 ⟨yy, List.mem_of_getElem? hyy, rfl⟩) (List.mem_map.2 ⟨y0, HY0.out.1, rfl⟩) (hyyi.trans HY0.out.2.symm)
                    exact congrArg Prod.snd this
                  have hgd := hsW.good (yy.id, yy.C) (List.mem_map.2 ⟨yy, List.mem_of_getElem? hyy, rfl⟩)
                  have hyl : yy.C.length ≤ 400 := by have h1 := csz_mem (List.mem_of_getElem? hyy); have h2 := HQ.out.2.2.2.2.2.1; unfold esz at h2; omega
                  obtain ⟨r5, hpl, HFI⟩ := rplace_fix yy.ao yy.C.length yy.cap yy.C rfl hgd.1 (fun q hq => by have := hgd.2 q hq; omega) (by omega) qk hq8
                  have hpj : ∃ jj : Nat, r5 = (jj : Int) ∧ yy.C[jj]? = some y := by
                    rcases hpl with ⟨_, hnone⟩ | ⟨jj, yq, rfl, hjj, hfst⟩
                    · rw [hyC, HYF.out] at hnone; cases hnone
                    · rw [hyC, HYF.out] at hfst; cases hfst
                      exact ⟨jj, rfl, hjj⟩
                  obtain ⟨jj, rfl, hjj⟩ := hpj
                  have hjb : jj < yy.C.length := (List.getElem?_eq_some_iff.1 hjj).1
                  have hmb : m < nw := by rw [← HQ.out.2.1]; exact (List.getElem?_eq_some_iff.1 hyy).1
                  obtain ⟨ge, oe, hge, f0, f1, -⟩ := ((HDA.out w16 h16.tail.tail.tail).2.1).at hyy
                  obtain ⟨gy, oy, hgy, -, -, -, -, -⟩ := (((HDA.out w16 h16.tail.tail.tail).2.1).2 yy (List.mem_of_getElem? hyy)).at jj y hjj
                  have hm0 : ¬ ((m : Int) < 0) := by omega
                  have hm1 : (m : Int) < (nw : Int) := by omega
                  have hj0 : ¬ ((jj : Int) < 0) := by omega
                  have hj1 : (jj : Int) < (yy.C.length : Int) := by omega
                  have hb1 : ge < w16.heap.size := World.block_lt_of_cell? w16 _ f0
                  have hb2 : w16.heap.size ≠ ge := by omega
                  have hC := h16.allocC #[.int .u32 (yy.id : Int), .slice yy.ao yy.C.length yy.cap] 71
                  have HS0 : Hid (∀ Z, Own w0 Z (Cells w16.heap.size #[.int .u32 (yy.id : Int), .slice yy.ao yy.C.length yy.cap] 71 :: Cells bq #[.int .u8 (qk : Int), .int .i32 qa, .int .i32 qb, .int .i32 qc] 69 :: BT vj Mj :: Cells bx #[.int .u32 (xi : Int), .int .u8 (xl : Int), .slice xna nl xnc, .slice (some ⟨gq, oq, none⟩) sl xsc] 62 :: LB) → Z.cell? ⟨w16.heap.size, 1, none⟩ = some (.slice yy.ao yy.C.length yy.cap) ∧ (Z.cell? ⟨bq, 0, none⟩ = some (.int .u8 (qk : Int)) ∧ Z.cell? ⟨bq, 1, none⟩ = some (.int .i32 qa) ∧ Z.cell? ⟨bq, 2, none⟩ = some (.int .i32 qb) ∧ Z.cell? ⟨bq, 3, none⟩ = some (.int .i32 qc)) ∧ (Z.cell? ⟨gy, oy + jj * 4, none⟩ = some (.int .u8 (y.k : Int)) ∧ Z.cell? ⟨gy, oy + jj * 4 + 1, none⟩ = some (.int .i32 y.a) ∧ Z.cell? ⟨gy, oy + jj * 4 + 2, none⟩ = some (.int .i32 y.b) ∧ Z.cell? ⟨gy, oy + jj * 4 + 3, none⟩ = some (.int .i32 y.c))) := fun Z hZ => by
                    have t1 := hZ.cell 1
                    have s0 := hZ.two.cell 0
                    have s1 := hZ.two.cell 1
                    have s2 := hZ.two.cell 2
                    have s3 := hZ.two.cell 3
                    simp at t1 s0 s1 s2 s3
                    obtain ⟨g', o', hg', -, y0c, y1c, y2c, y3c⟩ := (((HDA.out Z hZ.tail.tail.tail.tail).2.1).2 yy (List.mem_of_getElem? hyy)).at jj y hjj
                    rw [hgy] at hg'
                    cases hg'
                    exact ⟨t1, ⟨s0, s1, s2, s3⟩, y0c, y1c, y2c, y3c⟩
                  have HFJ : Hid (∀ Z, Own w0 Z (Cells w16.heap.size #[.int .u32 (yy.id : Int), .slice yy.ao yy.C.length yy.cap] 71 :: Cells bq #[.int .u8 (qk : Int), .int .i32 qa, .int .i32 qb, .int .i32 qc] 69 :: BT vj Mj :: Cells bx #[.int .u32 (xi : Int), .int .u8 (xl : Int), .slice xna nl xnc, .slice (some ⟨gq, oq, none⟩) sl xsc] 62 :: LB) → Calls Tryz.prog 27 #[.slice yy.ao yy.C.length yy.cap, .int .u8 (qk : Int)] Z fun e w' => e = .returned (.int .i64 (jj : Int)) ∧ Own w0 w' (Cells w16.heap.size #[.int .u32 (yy.id : Int), .slice yy.ao yy.C.length yy.cap] 71 :: Cells bq #[.int .u8 (qk : Int), .int .i32 qa, .int .i32 qb, .int .i32 qc] 69 :: BT vj Mj :: Cells bx #[.int .u32 (xi : Int), .int .u8 (xl : Int), .slice xna nl xnc, .slice (some ⟨gq, oq, none⟩) sl xsc] 62 :: LB)) := fun Z hZ => by
                    refine (HFI Z (((HDA.out Z hZ.tail.tail.tail.tail).2.1).2 yy (List.mem_of_getElem? hyy))).mono ?_
                    rintro e w' ⟨rfl, hf⟩
                    exact ⟨rfl, hZ.quiet hf⟩
                  have HC : Hid (Own w0 _ _) := hC
                  clear h16 hC HFI hpl hyy hyyi hyC hgd hsW hjj hjb hmb
                  obtain ⟨yi, ya, yc, yC⟩ := yy
                  simp only at f0 f1 hj1 HS0 HFJ HC hgy
                  generalize yC.length = yl at *
                  subst hge
                  subst hgy
                  go_wp2
                  generalize hWg : w16.alloc (.cells #[.int .u32 (yi : Int), .slice (some ⟨gy, oy, none⟩) yl yc] 71) = W2 at *
                  generalize w16.heap.size = be at *
                  clear hWg f0 f1 hb1 hb2
                  have O1 := HC.out.drew
                  obtain ⟨t1, ⟨s0, s1, s2, s3⟩, y0c, y1c, y2c, y3c⟩ := HS0.out _ HC.out
                  clear HC
                  go_region_held3 (fun w' => w'.cell? ⟨be, 1, none⟩ = some (.slice (some ⟨gy, oy, none⟩) yl yc) ∧ w'.cell? ⟨bq, 0, none⟩ = some (.int .u8 (qk : Int)) ∧ w'.cell? ⟨bq, 1, none⟩ = some (.int .i32 qa) ∧ w'.cell? ⟨bq, 2, none⟩ = some (.int .i32 qb) ∧ w'.cell? ⟨bq, 3, none⟩ = some (.int .i32 qc) ∧ w'.cell? ⟨gy, oy + jj * 4, none⟩ = some (.int .u8 (y.k : Int)) ∧ w'.cell? ⟨gy, oy + jj * 4 + 1, none⟩ = some (.int .i32 y.a) ∧ w'.cell? ⟨gy, oy + jj * 4 + 2, none⟩ = some (.int .i32 y.b) ∧ w'.cell? ⟨gy, oy + jj * 4 + 3, none⟩ = some (.int .i32 y.c)) (go_keep)
                    (first
                      | (go_at_call 27; with_reducible refine (HFJ.out _ O1).mono ?_; rintro x w17 ⟨rfl, O17⟩
                         obtain ⟨t1, ⟨s0, s1, s2, s3⟩, y0c, y1c, y2c, y3c⟩ := HS0.out _ O17)
                      | (go_at_call 26; with_reducible refine (HST.out _ _ O17).mono ?_; rintro x w18 ⟨u18, rfl, O18⟩
                         obtain ⟨t1, ⟨s0, s1, s2, s3⟩, y0c, y1c, y2c, y3c⟩ := HS0.out _ (Own.tail O18)))
                  have H18 : Hid (Own w0 w18 (BT u18 S1 :: BT vj Mj :: _)) := (Own.four O18).two
                  clear O1 O17 O18 HFJ HST HS0 t1 s0 s1 s2 s3 y0c y1c y2c y3c
                  go_wp2_with (at_builtin; refine app_bits rfl _ _ rfl vj u18 Mj S1 H18.out hsp (by omega) rfl rfl ?_; intro v19 w19 h19; have H19 : Hid (Own w0 w19 (BT v19 (Mj ++ S1) :: Cells bx #[.int .u32 (xi : Int), .int .u8 (xl : Int), .slice xna nl xnc, .slice (some ⟨gq, oq, none⟩) sl xsc] 62 :: LB)) := h19.two.tail.two.tail; clear h19)
                  go_roundw
                  case rel => exact ⟨j + 1, _, by omega, by go_num, rfl, by rw [HTK.out]; exact H19.out⟩
                  case measure => simp [intOf]; omega
              · have hj2 : j = sl := by omega
                subst hj2
                have hlt2 : ¬ (j : Int) < (j : Int) := by omega
                have H4 : Hid (Own w0 wr (BT vj ((L2 ++ var d.H.length) ++ chgsB (evs W) 0 ((d.H.map ChE.v).take (k + 1))) :: LB)) := by
                  show Own _ _ _
                  have h20 := hO
                  rw [List.take_of_length_le (by rw [← HSL.out]; exact Nat.le_refl _)] at h20
                  have h21 := h20.two.tail
                  rw [HT3.out, HCB.out]
                  rw [HM8.out] at h21
                  simp only [List.append_assoc] at h21 ⊢
                  exact h21
                clear hO
                go_wp2
                go_roundw
                case rel => exact ⟨k + 1, _, by omega, by go_num, rfl, by rw [HT4.out], H4.out⟩
                case measure => simp [intOf]; omega
          · have hk2 : k = d.H.length := by omega
            subst hk2
            have hlt' : ¬ (d.H.length : Int) < (d.H.length : Int) := by omega
            rw [List.take_of_length_le (by rw [List.length_map]; exact Nat.le_refl _)] at hO
            obtain ⟨M, hM⟩ : ∃ M, M = (L2 ++ var d.H.length) ++ chgsB (evs W) 0 (d.H.map ChE.v) := ⟨_, rfl⟩
            rw [← hM] at hO
            have HM : Hid (M = L0 ++ contB 2 (evs W) (evs N)) := by
              show _ = _
              unfold contB
              rw [if_neg (by decide), if_pos rfl, ← HOK.out.2]
              have e1 : dltB (evs W) d.v = (var d.G.length ++ idsB 0 d.G) ++ ((var (evs d.M).length ++ entsB 0 (evs d.M)) ++ (var (d.H.map ChE.v).length ++ chgsB (evs W) 0 (d.H.map ChE.v))) := rfl
              rw [e1, evs_len, List.length_map, hM, HL2.out, HL1.out]
              simp only [List.append_assoc]
            have H4 : Hid (Own w0 wr (BT v9 M :: LB)) := hO
            have HL : Hid (Own w0 wr l) := (HDA.out wr hO.tail).2.2
            clear hO hM hlt
            have hmm := HCL.out (HCC.out.trans HD0.out.1)
            rw [← HM.out] at hmm
            have hml := hmm.1
            have hm0 := hmm.2
            clear hmm
            have HBY : Hid (Calls _ _ _ _ _) := rbytes_any wr v9 M H4.out.bs (by omega)
            clear H4
            go_wp2_with fail
            refine HBY.out.mono ?_
            rintro x wy ⟨vy, rfl, hr, hf, hk⟩
            have hnb : 0 < nb M.length := by unfold nb; omega
            have hnb2 : nb M.length ≤ 60000 := by unfold nb; omega
            obtain ⟨g, cap, hv, _⟩ := row_shape hr hnb
            subst hv
            by_cases hlg : nb M.length ≤ 4096
            · have hin := In.of_row hr (by rw [pack_len]) (pack_byte M)
              have HSE : Hid (Calls _ _ _ _ _) := rseal_ok wy (some ⟨g, 0, none⟩) cap (nb M.length) (pack M) hin hlg
              have H6 : Hid (Own w0 wy l) := HL.out.quiet hf
              clear hr hf hk HBY hin
              go_wp2_with fail
              refine HSE.out.mono ?_
              rintro x wx ⟨g6, cp6, rfl, hr6, hf6⟩
              have H7 : Hid (Own w0 wx (Row 5 1 (.slice (some ⟨g6, 0, none⟩) (nb M.length + 4) cp6) (nb M.length + 4) (vrow (frm (pack M))) :: l)) := H6.out.new (Row 5 1 (.slice (some ⟨g6, 0, none⟩) (nb M.length + 4) cp6) (nb M.length + 4) (vrow (frm (pack M)))) (fun j => (Value.slice (some ⟨g6, 0, none⟩) (nb M.length + 4) cp6).ownBlock = some j) ⟨row_weak hr6, fun _ => Iff.rfl⟩ hf6 (fun j hj => (hr6.lt j hj).1)
              clear hr6 hf6 HSE H6
              go_wp2
              go_ret2
              refine ⟨_, 0, frm (pack M), rfl, HSY.out _ (frm_byte _ (pack_byte M)) (HCC.out.trans HD0.out.1) (by rw [HM.out]) (by rw [length_frm, pack_len]; omega), ?_⟩
              have e1 : (frm (pack M)).length = nb M.length + 4 := by rw [length_frm, pack_len]
              rw [e1]
              exact H7.out
            · have HSE : Hid (Calls _ _ _ _ _) := rseal_long wy (some ⟨g, 0, none⟩) cap (nb M.length) (by omega) (by unfold maxLen; omega)
              have H6 : Hid (Own w0 wy l) := HL.out.quiet hf
              clear hr hf hk HBY
              go_wp2_with fail
              refine HSE.out.mono ?_
              rintro x wx ⟨rfl, rfl⟩
              clear HSE
              go_wp2
              go_ret2
              exact ⟨_, 3, [], rfl, HSR.out 3 (by decide) (by decide), H6.out.nilRow _ _⟩
  · have z0 : (((dcode (evs W) (evs N) : Nat) : Int) != 0) = true := by simpa using hd0
    have HC0 : Hid (dcode (evs W) (evs N) ≠ 0) := hd0
    generalize dcode (evs W) (evs N) = fc at *
    clear hd0
    go_wp2_with fail
    refine HDF.out.mono ?_
    rintro x w3 ⟨d, rfl, -, h3⟩
    unfold DlE.vs
    have H5 : Hid (Own w0 _ l) := ((Own.dropA h3).tail.tail).alloc (.cells #[.slice d.ga d.G.length d.gc, .slice d.ma d.M.length d.mc, .slice d.ha d.H.length d.hc] 53)
    clear h3 HDF r0
    go_wp2
    go_ret2
    exact ⟨_, fc, [], rfl, HSR.out fc hdl HC0.out, H5.out.nilRow _ _⟩
end Go.Proofs.YtlncgkbgelejmaaGreatDoor

/-
  The document's Seal of any packet; Peek and Open of what isn't a frame.
-/
namespace Go.Proofs.YtlncgkbgelejmaaGreatDoor
open Go.RowKit
set_option linter.unusedVariables false
set_option maxRecDepth 100000

theorem rseal20 (w0 w : World) (l : List Thing) (h : Own w0 w l) (k c e t s : Nat) (hI : HIn k c e t s) (aw an : Option Addr) (nw nn cw cn : Nat) (W N : List EnE) (hQ : ∀ w', Own w0 w' l → EntsAt w' aw W ∧ EntsAt w' an N) (hW : W.length = nw) (hN : N.length = nn) (hIW : EIn W) (hIN : EIn N) (hzW : esz W ≤ 400) (hzN : esz N ≤ 400) :
    Calls Tryz.prog 6 #[.agg (hvs k c e t s), .slice aw nw cw, .slice an nn cn] w fun x w' => ∃ v code P, x = .returned (.tuple #[v, .int .i64 ((code : Nat) : Int)]) ∧ SealR k c e t s (evs W) (evs N) code P ∧ Own w0 w' (Row 5 1 v P.length (vrow P) :: l) := by
  by_cases hc : hchk k c e t s = 0
  · by_cases k1 : k = 1
    · subst k1
      exact rseal_1 w0 w l h c e t s hI hc aw an nw nn cw cn W N hQ hW hN hIW hIN hzW hzN
    · by_cases k2 : k = 2
      · subst k2
        exact rseal_2 w0 w l h c e t s hI hc aw an nw nn cw cn W N hQ hW hN hIW hIN hzW hzN
      · exact rseal_3 w0 w l h k c e t s hI hc k1 k2 aw an nw nn cw cn W N hQ hW hN hIW hIN hzW hzN
  · exact rseal_bad w0 w l h k c e t s hI hc aw an nw nn cw cn W N hQ hW hN hIW hIN hzW hzN
theorem results_cell_tmp_tmp {fn : Func} {p u v : Tmp} {ty : TypeId} (h : fn.results = #[.cell p ty, .tmp u, .tmp v]) (tmps : Array Value) (P : Program) (w : World) :
    (results fn tmps).run P w =
      ((asAddr (tmps.getD p undef)).run P w).andThen fun a w₁ => ((loadVar ty a).run P w₁).andThen fun x w₂ => .ok (.tuple #[x, tmps.getD u undef, tmps.getD v undef]) w₂ := by
  simp only [results, h]
  simp [Sem.run_bind, Result.andThen]
set_option maxHeartbeats 2000000 in
/-- Peek of what has another sum -/
theorem ppeek_sum (w0 w : World) (htf : Tabf w0) (l : List Thing) (h : Own w0 w l) (ao : Option Addr) (cap d : Nat) (P : List Nat) (hin : ∀ w', Own w0 w' l → In w' ao (d + 4) cap P) (hL : d ≤ 4096) (hne : bnum (P.drop d) ≠ crc (P.take d)) :
    Calls Tryz.prog 8 #[.slice ao (d + 4) cap] w fun x w' => x = .returned (.tuple #[.agg #[.int .u8 0, .int .u8 0, .int .u32 0, .int .u32 0, .int .u32 0], .int .i64 6]) ∧ Own w0 w' l := by
  have h1 := h.allocC #[.int .u8 0, .int .u8 0, .int .u32 0, .int .u32 0, .int .u32 0] 24
  have HO : Hid (Calls Tryz.prog 30 #[.slice ao (d + 4) cap] (w.alloc (.cells #[.int .u8 0, .int .u8 0, .int .u32 0, .int .u32 0, .int .u32 0] 24)) fun e w' => e = .returned (.tuple #[.slice none 0 0, .int .i64 6]) ∧ Own w0 w' (Cells w.heap.size #[.int .u8 0, .int .u8 0, .int .u32 0, .int .u32 0, .int .u32 0] 24 :: l)) := by
    refine (open_sum _ ao cap d P (hin _ h1.tail) hL (htf.quiet h1.fr) hne).mono ?_
    rintro e w' ⟨rfl, rfl⟩
    exact ⟨rfl, h1⟩
  clear h h1 hin hne htf
  go_enter Tryz.func8, Tryz.ntmps8
  go_wp2_with fail
  refine HO.out.mono ?_
  rintro x w1 ⟨rfl, h1⟩
  generalize w.heap.size = bw at *
  have r0 := h1.cell 0
  have r1 := h1.cell 1
  have r2 := h1.cell 2
  have r3 := h1.cell 3
  have r4 := h1.cell 4
  simp at r0 r1 r2 r3 r4
  have f0 := h1.froz 0
  have f1 := h1.froz 1
  have f2 := h1.froz 2
  have f3 := h1.froz 3
  have f4 := h1.froz 4
  have hb1 : bw < w1.heap.size := World.block_lt_of_cell? w1 _ r0
  have hb2 : w1.heap.size ≠ bw := by omega
  have H1 : Hid (Own w0 w1 _) := h1
  have z6 : ((6 : Int) != 0) = true := rfl
  clear h1 HO
  have H3 : Hid (Own w0 ((((((w1.setCell ⟨bw, 0, none⟩ (.int .u8 0)).setCell ⟨bw, 1, none⟩ (.int .u8 0)).setCell ⟨bw, 2, none⟩ (.int .u32 0)).setCell ⟨bw, 3, none⟩ (.int .u32 0)).setCell ⟨bw, 4, none⟩ (.int .u32 0)).alloc (.cells #[.slice none 0 0] 29)) (Cells (((((w1.setCell ⟨bw, 0, none⟩ (.int .u8 0)).setCell ⟨bw, 1, none⟩ (.int .u8 0)).setCell ⟨bw, 2, none⟩ (.int .u32 0)).setCell ⟨bw, 3, none⟩ (.int .u32 0)).setCell ⟨bw, 4, none⟩ (.int .u32 0)).heap.size #[.slice none 0 0] 29 :: Cells (bw) #[.int .u8 0, .int .u8 0, .int .u32 0, .int .u32 0, .int .u32 0] 24 :: l)) := (((((H1.out.setC 0 (.int .u8 0)).setC 1 (.int .u8 0)).setC 2 (.int .u32 0)).setC 3 (.int .u32 0)).setC 4 (.int .u32 0)).allocC #[.slice none 0 0] 29
  clear H1
  go_wp2
  (try simp only [Exit.inBlock, Exit.then])
  obtain ⟨WW, hWW⟩ : ∃ WW, WW = (((((w1.setCell ⟨bw, 0, none⟩ (.int .u8 0)).setCell ⟨bw, 1, none⟩ (.int .u8 0)).setCell ⟨bw, 2, none⟩ (.int .u32 0)).setCell ⟨bw, 3, none⟩ (.int .u32 0)).setCell ⟨bw, 4, none⟩ (.int .u32 0)).alloc (.cells #[.slice none 0 0] 29) := ⟨_, rfl⟩
  rw [← hWW] at H3 ⊢
  have H4 : Hid (Own w0 WW (Cells (bw) #[.int .u8 0, .int .u8 0, .int .u32 0, .int .u32 0, .int .u32 0] 24 :: l)) := H3.out.tail
  clear hWW H3
  refine bodyPost_ret (v := .tuple #[.agg #[.int .u8 0, .int .u8 0, .int .u32 0, .int .u32 0, .int .u32 0], .int .i64 6]) ?_ rfl ⟨rfl, H4.out.tail⟩
  rw [results_cell_tmp rfl]
  have q0 := H4.out.cell 0
  have q1 := H4.out.cell 1
  have q2 := H4.out.cell 2
  have q3 := H4.out.cell 3
  have q4 := H4.out.cell 4
  simp at q0 q1 q2 q3 q4
  go_simp
set_option maxHeartbeats 2000000 in
/-- Open of what has another sum -/
theorem popen_sum (w0 w : World) (htf : Tabf w0) (l : List Thing) (h : Own w0 w l) (ao : Option Addr) (cap d : Nat) (P : List Nat) (wv : Value) (aw : Option Addr) (nw cw : Nat) (hwv : wv = .slice aw nw cw) (hin : ∀ w', Own w0 w' l → In w' ao (d + 4) cap P) (hL : d ≤ 4096) (hne : bnum (P.drop d) ≠ crc (P.take d)) :
    Calls Tryz.prog 9 #[.slice ao (d + 4) cap, wv] w fun x w' => x = .returned (.tuple #[.agg #[.int .u8 0, .int .u8 0, .int .u32 0, .int .u32 0, .int .u32 0], .slice none 0 0, .int .i64 6]) ∧ Own w0 w' l := by
  subst hwv
  have h1 := (h.allocC #[.slice aw nw cw] 25).allocC #[.int .u8 0, .int .u8 0, .int .u32 0, .int .u32 0, .int .u32 0] 24
  have s1 : (w.alloc (.cells #[.slice aw nw cw] 25)).heap.size = w.heap.size + 1 := Array.size_push _
  rw [s1] at h1
  have HO : Hid (Calls Tryz.prog 30 #[.slice ao (d + 4) cap] ((w.alloc (.cells #[.slice aw nw cw] 25)).alloc (.cells #[.int .u8 0, .int .u8 0, .int .u32 0, .int .u32 0, .int .u32 0] 24)) fun e w' => e = .returned (.tuple #[.slice none 0 0, .int .i64 6]) ∧ Own w0 w' (Cells (w.heap.size + 1) #[.int .u8 0, .int .u8 0, .int .u32 0, .int .u32 0, .int .u32 0] 24 :: Cells w.heap.size #[.slice aw nw cw] 25 :: l)) := by
    refine (open_sum _ ao cap d P (hin _ h1.tail.tail) hL (htf.quiet h1.fr) hne).mono ?_
    rintro e w' ⟨rfl, rfl⟩
    exact ⟨rfl, h1⟩
  clear h h1 hin hne htf s1
  go_enter Tryz.func9, Tryz.ntmps9
  go_wp2_with fail
  refine HO.out.mono ?_
  rintro x w1 ⟨rfl, h1⟩
  generalize w.heap.size = bw at *
  have r0 := h1.cell 0
  have r1 := h1.cell 1
  have r2 := h1.cell 2
  have r3 := h1.cell 3
  have r4 := h1.cell 4
  simp at r0 r1 r2 r3 r4
  have f0 := h1.froz 0
  have f1 := h1.froz 1
  have f2 := h1.froz 2
  have f3 := h1.froz 3
  have f4 := h1.froz 4
  have hb1 : bw + 1 < w1.heap.size := World.block_lt_of_cell? w1 _ r0
  have hb2 : w1.heap.size ≠ bw + 1 := by omega
  have H1 : Hid (Own w0 w1 _) := h1
  have z6 : ((6 : Int) != 0) = true := rfl
  clear h1 HO
  have H3 : Hid (Own w0 ((((((w1.setCell ⟨bw + 1, 0, none⟩ (.int .u8 0)).setCell ⟨bw + 1, 1, none⟩ (.int .u8 0)).setCell ⟨bw + 1, 2, none⟩ (.int .u32 0)).setCell ⟨bw + 1, 3, none⟩ (.int .u32 0)).setCell ⟨bw + 1, 4, none⟩ (.int .u32 0)).alloc (.cells #[.slice none 0 0] 29)) (Cells (((((w1.setCell ⟨bw + 1, 0, none⟩ (.int .u8 0)).setCell ⟨bw + 1, 1, none⟩ (.int .u8 0)).setCell ⟨bw + 1, 2, none⟩ (.int .u32 0)).setCell ⟨bw + 1, 3, none⟩ (.int .u32 0)).setCell ⟨bw + 1, 4, none⟩ (.int .u32 0)).heap.size #[.slice none 0 0] 29 :: Cells (bw + 1) #[.int .u8 0, .int .u8 0, .int .u32 0, .int .u32 0, .int .u32 0] 24 :: Cells bw #[.slice aw nw cw] 25 :: l)) := (((((H1.out.setC 0 (.int .u8 0)).setC 1 (.int .u8 0)).setC 2 (.int .u32 0)).setC 3 (.int .u32 0)).setC 4 (.int .u32 0)).allocC #[.slice none 0 0] 29
  clear H1
  go_wp2
  (try simp only [Exit.inBlock, Exit.then])
  obtain ⟨WW, hWW⟩ : ∃ WW, WW = (((((w1.setCell ⟨bw + 1, 0, none⟩ (.int .u8 0)).setCell ⟨bw + 1, 1, none⟩ (.int .u8 0)).setCell ⟨bw + 1, 2, none⟩ (.int .u32 0)).setCell ⟨bw + 1, 3, none⟩ (.int .u32 0)).setCell ⟨bw + 1, 4, none⟩ (.int .u32 0)).alloc (.cells #[.slice none 0 0] 29) := ⟨_, rfl⟩
  rw [← hWW] at H3 ⊢
  have H4 : Hid (Own w0 WW (Cells (bw + 1) #[.int .u8 0, .int .u8 0, .int .u32 0, .int .u32 0, .int .u32 0] 24 :: Cells bw #[.slice aw nw cw] 25 :: l)) := H3.out.tail
  clear hWW H3
  refine bodyPost_ret (v := .tuple #[.agg #[.int .u8 0, .int .u8 0, .int .u32 0, .int .u32 0, .int .u32 0], .slice none 0 0, .int .i64 6]) ?_ rfl ⟨rfl, H4.out.tail.tail⟩
  rw [results_cell_tmp_tmp rfl]
  have q0 := H4.out.cell 0
  have q1 := H4.out.cell 1
  have q2 := H4.out.cell 2
  have q3 := H4.out.cell 3
  have q4 := H4.out.cell 4
  simp at q0 q1 q2 q3 q4
  go_simp
end Go.Proofs.YtlncgkbgelejmaaGreatDoor

/-
  Lists of entities that come in, and how many values they hold.
-/
namespace Go.Proofs.YtlncgkbgelejmaaGreatDoor
open Go.ChangeShapes Go.WideShapes Go.ChangeAt Go.RowKit Go.Deep
set_option linter.unusedVariables false
set_option maxRecDepth 100000

theorem bulk_pos {H : Type} (d : DataW H) : 1 ≤ Rows.uptoBulk d := by
  cases d with
  | lit v => cases v <;> simp [Rows.uptoBulk]
  | _ => simp [Rows.uptoBulk]
theorem bulk_count {H : Type} (m : List (DataW H)) : m.length ≤ Rows.uptoBulkAll m := by
  induction m with
  | nil => exact Nat.zero_le _
  | cons d m ih => have := bulk_pos d; simp only [Rows.uptoBulkAll, List.length_cons]; omega
theorem bulk_in {H : Type} {d : DataW H} {m : List (DataW H)} (h : d ∈ m) : Rows.uptoBulk d ≤ Rows.uptoBulkAll m := by
  induction m with
  | nil => cases h
  | cons y m ih =>
    simp only [Rows.uptoBulkAll]
    rcases List.mem_cons.1 h with rfl | h
    · omega
    · have := ih h; omega
theorem bulk_sum {H : Type} {D : Nat → DataW H} {s : Nat → Nat} : ∀ (R : List Nat), (∀ i ∈ R, s i ≤ Rows.uptoBulk (D i)) → (R.map s).sum ≤ Rows.uptoBulkAll (R.map D) := by
  intro R
  induction R with
  | nil => intro _; exact Nat.zero_le _
  | cons i R ih =>
    intro h
    have h1 := h i (by simp)
    have h2 := ih (fun j hj => h j (List.mem_cons_of_mem _ hj))
    simp only [List.map_cons, List.sum_cons, Rows.uptoBulkAll]
    omega
theorem bulk_slice {H : Type} (a b : List (DataW H)) : Rows.uptoBulk (.slice a b) = Rows.uptoBulkAll a + Rows.uptoBulkAll b + 1 := by simp only [Rows.uptoBulk]
theorem bulk_agg {H : Type} (a : List (DataW H)) : Rows.uptoBulk (.agg a) = Rows.uptoBulkAll a + 1 := by simp only [Rows.uptoBulk]
/-- elements of a slice that comes in, and how many values they hold -/
theorem open_rowsB {H : Type} {enc : TypeId × Value → H} {P : Program} {W : World} {ao : Option Addr} {len cap : Nat} {d : DataW H} {p : List MemPlace} {α : Type} [Inhabited α] {t e : TypeId} (s : Nat) (ht : P.underlying t = some (.slice e)) (hs : P.cellsOf e = s) (h0s : 0 < s) (G : List Value → α → Prop) (sz : α → Nat)
    (hG : ∀ fuel cs x, DataW.trod enc P W 0 (fun _ => true) true fuel e cs = some x → ∃ q, G cs q ∧ sz q ≤ Rows.uptoBulk x.1)
    (h : DataW.Trod enc P W 0 (fun _ => true) true t (.slice ao len cap) d p) :
    ∃ Q : List α, Q.length = len ∧ len ≤ cap ∧ cap ≤ maxLen ∧ RowsAt G s W ao Q ∧ (Q.map sz).sum ≤ Rows.uptoBulk d := by
  obtain ⟨fuel, hf⟩ := h
  rcases open_slice ht hf with ⟨hc, hd⟩ | ⟨a, l, c, m, n, D, Pl, hc, _, hl, hm, hmm, hd, hx⟩
  · simp [Value.cells] at hc
    obtain ⟨rfl, rfl, rfl⟩ := hc
    exact ⟨[], rfl, Nat.le_refl _, Nat.zero_le _, .inl rfl, Nat.zero_le _⟩
  · simp [Value.cells] at hc
    obtain ⟨rfl, rfl, rfl⟩ := hc
    simp only [Prod.mk.injEq] at hd
    obtain ⟨rfl, _⟩ := hd
    have hml : len ≤ m := by rw [hmm]; simp; omega
    have each : ∀ i, i < len → ∃ q : α, sz q ≤ Rows.uptoBulk (D i) ∧ ∃ cs, G cs q ∧ cs.length = s ∧ ∀ r, r < s → W.cell? ((a.add (i * s)).add r) = cs[r]? := by
      intro i hi
      obtain ⟨cs', h1, h2⟩ := hx i (by omega)
      rw [hs] at h1
      obtain ⟨_, hlen, hcell⟩ := World.cells?_some h1
      obtain ⟨q, hq, hb⟩ := hG _ _ _ h2
      exact ⟨q, hb, cs', hq, hlen, fun r hr => by rw [hcell r hr, List.getElem?_eq_getElem (by omega)]⟩
    obtain ⟨f, hfn⟩ := choose_lt each
    refine ⟨(List.range len).map f, by simp, hl, hm, ?_, ?_⟩
    · by_cases h0 : len = 0
      · subst h0; left; rfl
      · right
        obtain ⟨g, o, spot⟩ := a
        obtain ⟨_, cs, _, hcl, hcc⟩ := hfn 0 (by omega)
        have h1 := hcc 0 h0s
        rw [List.getElem?_eq_getElem (by omega)] at h1
        have hsp : spot = none := by simpa [Addr.add] using World.cell?_spot h1
        subst hsp
        refine ⟨g, o, rfl, fun j q hj => ?_⟩
        have hjl : j < len := by
          have := (List.getElem?_eq_some_iff.1 hj).1
          simpa using this
        rw [List.getElem?_map, List.getElem?_range hjl] at hj
        simp only [Option.map_some, Option.some.injEq] at hj
        obtain ⟨_, cs, h1, h2, h3⟩ := hfn j hjl
        rw [hj] at h1
        refine ⟨cs, h1, h2, fun r hr => ?_⟩
        have := h3 r hr
        rw [addr_add, addr_add] at this
        exact this
    · have h1 := bulk_sum (D := D) (s := fun i => sz (f i)) (List.range len) (fun i hi => (hfn i (by simpa using hi)).1)
      rw [bulk_slice, List.map_map]
      have e : sz ∘ f = fun i => sz (f i) := rfl
      rw [e]
      omega
theorem cellsEnt : Tryz.prog.cellsOf 71 = 2 := by kernel_rfl
theorem cellsEntC : Tryz.prog.cellsOf 60 = 1 := by kernel_rfl
theorem cellsEntI : Tryz.prog.cellsOf 58 = 1 := by kernel_rfl
theorem duo {β : Type} {l : List β} (h : l.length = 2) : ∃ a b, l = [a, b] := by
  match l, h with
  | [a, b], _ => exact ⟨a, b, rfl⟩
def EntI (W : World) (cs : List Value) (x : EnE) : Prop := cs = x.cs ∧ x.id < 4294967296 ∧ IsComps W x.ao x.C.length x.cap x.C
theorem ones_sum {α : Type} (Q : List α) : (Q.map (fun _ => 1)).sum = Q.length := by
  induction Q with
  | nil => rfl
  | cons a t ih => rw [List.map_cons, List.sum_cons, ih, List.length_cons]; omega
/-- components that come in, and how many there are -/
theorem open_csB {H : Type} {enc : TypeId × Value → H} {W : World} {fuel : Nat} {cs : List Value} {x : DataW H × List MemPlace} (h : DataW.trod enc Tryz.prog W 0 (fun _ => true) true fuel 60 cs = some x) : ∃ ao cap C, cs = [.slice ao (List.length C) cap] ∧ IsComps W ao (List.length C) cap C ∧ C.length ≤ Rows.uptoBulk x.1 := by
  obtain ⟨ao, len, cap, hv⟩ : ∃ ao len cap, cs = [.slice ao len cap] := by
    rcases open_slice Tryz.underlying60 h with ⟨hc, _⟩ | ⟨a, l, c, m, n, D, Pl, hc, _⟩
    · exact ⟨_, _, _, hc⟩
    · exact ⟨_, _, _, hc⟩
  subst hv
  obtain ⟨d, p⟩ := x
  obtain ⟨Q, h1, h2, h3, h4, h5⟩ := open_rowsB 4 Tryz.underlying60 cellsComp (by decide) CompIs (fun _ => 1) (fun fuel cs x hx => by
    obtain ⟨k, a, b, c, g1, g2, g3, g4, hcs, _⟩ := comp_cells hx
    obtain ⟨n, rfl, hn⟩ := ok8_nat g1
    exact ⟨⟨n, a, b, c⟩, ⟨hcs, hn⟩, bulk_pos _⟩) (d := d) (p := p) ⟨fuel, h⟩
  subst h1
  refine ⟨ao, cap, Q, rfl, ⟨rfl, h2, h3, h4⟩, ?_⟩
  rw [ones_sum] at h5
  exact h5
theorem ent_is {H : Type} {enc : TypeId × Value → H} {W : World} (fuel : Nat) (cs : List Value) (x : DataW H × List MemPlace)
    (h : DataW.trod enc Tryz.prog W 0 (fun _ => true) true fuel 71 cs = some x) : ∃ e, EntI W cs e ∧ e.C.length + 1 ≤ Rows.uptoBulk x.1 := by
  obtain ⟨xs, n, _, hx, hl, hlen, hf⟩ := DataW.trod_struct Tryz.underlying71 h
  rw [cellsEnt] at hl
  obtain ⟨c0, c1, rfl⟩ := duo hl
  obtain ⟨y0, y1, rfl⟩ := duo hlen
  have h0 := hf 0 _ rfl
  have h1 := hf 1 _ rfl
  simp [cellsEntC, cellsEntI] at h0 h1
  obtain ⟨b, b0, _, wb⟩ := DataW.trod_int Tryz.underlying58 h0
  simp at b0
  subst b0
  have hb : 0 ≤ b ∧ b ≤ 4294967295 := by simpa [Lit.wf, IntKind.min, IntKind.max, IntKind.signed, IntKind.bits] using wb
  obtain ⟨bn, rfl⟩ := Int.eq_ofNat_of_zero_le hb.1
  obtain ⟨ao, cap, C, hv, hC, hs⟩ := open_csB h1
  simp at hv
  subst hv
  refine ⟨⟨bn, ao, cap, C⟩, ⟨rfl, by show bn < _; omega, hC⟩, ?_⟩
  subst hx
  show _ ≤ Rows.uptoBulk (.agg [y0.1, y1.1])
  rw [bulk_agg]
  have := bulk_in (d := y1.1) (m := [y0.1, y1.1]) (by simp)
  show C.length + 1 ≤ _
  omega
def IsEnts (w : World) (ao : Option Addr) (len cap : Nat) (Q : List EnE) : Prop := Q.length = len ∧ len ≤ cap ∧ cap ≤ maxLen ∧ RowsAt (EntI w) 2 w ao Q
theorem esz_sum (Q : List EnE) : (Q.map (fun x => x.C.length + 1)).sum = esz Q := by
  unfold esz
  induction Q with
  | nil => rfl
  | cons x t ih => simp only [List.map_cons, List.sum_cons, List.length_cons, csz, ih]; omega
theorem open_ents {H : Type} {enc : TypeId × Value → H} {W : World} {ao : Option Addr} {len cap : Nat} {d : DataW H} {p : List MemPlace}
    (h : DataW.Trod enc Tryz.prog W 0 (fun _ => true) true 25 (.slice ao len cap) d p) : ∃ Q, IsEnts W ao len cap Q ∧ esz Q ≤ Rows.uptoBulk d := by
  haveI : Inhabited EnE := ⟨⟨0, none, 0, []⟩⟩
  obtain ⟨Q, h1, h2, h3, h4, h5⟩ := open_rowsB 2 Tryz.underlying25 cellsEnt (by decide) (EntI W) (fun x => x.C.length + 1) (fun fuel cs x hx => ent_is fuel cs x hx) h
  rw [esz_sum] at h5
  exact ⟨Q, ⟨h1, h2, h3, h4⟩, h5⟩
theorem IsEnts.ents {w : World} {ao : Option Addr} {len cap : Nat} {Q : List EnE} (h : IsEnts w ao len cap Q) : EntsAt w ao Q ∧ EIn Q := by
  obtain ⟨hl, _, _, hR⟩ := h
  have key : ∀ x ∈ Q, x.id < 4294967296 ∧ IsComps w x.ao x.C.length x.cap x.C := by
    intro x hx
    obtain ⟨j, hj⟩ := List.getElem?_of_mem hx
    rcases hR with h | ⟨g, of, ha, hc⟩
    · subst h; simp at hj
    · obtain ⟨cs, ⟨_, h3, h4⟩, _⟩ := hc j x hj
      exact ⟨h3, h4⟩
  refine ⟨⟨?_, fun x hx => (key x hx).2.cs.1⟩, fun x hx => ⟨(key x hx).1, (key x hx).2.cs.2⟩⟩
  rcases hR with h | ⟨g, of, ha, hc⟩
  · exact .inl h
  · refine .inr ⟨g, of, ha, fun j x hj => ?_⟩
    obtain ⟨cs, ⟨rfl, _⟩, _, h3⟩ := hc j x hj
    exact ⟨h3 0 (by decide), h3 1 (by decide)⟩
end Go.Proofs.YtlncgkbgelejmaaGreatDoor


/-
  Heads that come in; whether two lists are few.
-/
namespace Go.Proofs.YtlncgkbgelejmaaGreatDoor
open Go.ChangeShapes Go.WideShapes Go.ChangeAt Go.WideMaps Go.WideElems Go.RowKit
set_option linter.unusedVariables false
set_option maxRecDepth 100000

theorem cellsHead : Tryz.prog.cellsOf 24 = 5 := by kernel_rfl
theorem cellsU32h : Tryz.prog.cellsOf 22 = 1 := by kernel_rfl
def oku (a : Int) : Prop := (Lit.int .u32 a).wf = true
/-- a head's datum -/
def hdat {H : Type} (k c e t s : Int) : DataW H := .agg [.lit (.int .u8 k), .lit (.int .u8 c), .lit (.int .u32 e), .lit (.int .u32 t), .lit (.int .u32 s)]
def hdv (k c e t s : Int) : Array Value := #[.int .u8 k, .int .u8 c, .int .u32 e, .int .u32 t, .int .u32 s]
theorem head_cells {H : Type} {enc : TypeId × Value → H} {W : World} {base : Nat} {sp : Nat → Bool} {held : Bool} {fuel : Nat} {cs : List Value} {x : DataW H × List MemPlace}
    (h : DataW.trod enc Tryz.prog W base sp held fuel 24 cs = some x) : ∃ k c e t s, ok8 k ∧ ok8 c ∧ oku e ∧ oku t ∧ oku s ∧ cs = [.int .u8 k, .int .u8 c, .int .u32 e, .int .u32 t, .int .u32 s] ∧ x = (hdat k c e t s, []) := by
  obtain ⟨xs, n, _, hx, hl, hlen, hf⟩ := DataW.trod_struct Tryz.underlying24 h
  rw [cellsHead] at hl
  match cs, hl with
  | [c0, c1, c2, c3, c4], _ =>
  match xs, hlen with
  | [y0, y1, y2, y3, y4], _ =>
    have h0 := hf 0 _ rfl
    have h1 := hf 1 _ rfl
    have h2 := hf 2 _ rfl
    have h3 := hf 3 _ rfl
    have h4 := hf 4 _ rfl
    simp [cellsByte, cellsU32h] at h0 h1 h2 h3 h4
    obtain ⟨k, a0, a1, w0⟩ := DataW.trod_int Tryz.underlying5 h0
    obtain ⟨c, b0, b1, w1⟩ := DataW.trod_int Tryz.underlying5 h1
    obtain ⟨e, d0, d1, w2⟩ := DataW.trod_int Tryz.underlying22 h2
    obtain ⟨t, e0, e1, w3⟩ := DataW.trod_int Tryz.underlying22 h3
    obtain ⟨s, f0, f1, w4⟩ := DataW.trod_int Tryz.underlying22 h4
    simp at a0 b0 d0 e0 f0
    subst a0 b0 d0 e0 f0 a1 b1 d1 e1 f1 hx
    exact ⟨k, c, e, t, s, w0, w1, w2, w3, w4, rfl, by simp [hdat]⟩
def HdOk (k c e t s : Int) : Prop := ok8 k ∧ ok8 c ∧ oku e ∧ oku t ∧ oku s
theorem open_head {H : Type} {enc : TypeId × Value → H} {W : World} {base : Nat} {v : Value} {d : DataW H} {p : List MemPlace}
    (hv : Value.okWide Tryz.prog W .any base 24 v) (h : DataW.Trod enc Tryz.prog W 0 (fun _ => true) true 24 v d p) :
    ∃ k c e t s, v = .agg (hdv k c e t s) ∧ d = hdat k c e t s ∧ p = [] ∧ HdOk k c e t s := by
  obtain ⟨cs, rfl, hsz, _⟩ : ∃ cs, v = .agg cs ∧ cs.size = Tryz.prog.cellsOf 24 ∧ Row.okWide Tryz.prog W .any base 24 cs := by
    simpa [Value.okWide, Tryz.underlying24] using hv
  obtain ⟨fuel, hf⟩ := h
  obtain ⟨k, c, e, t, s, h1, h2, h3, h4, h5, hc, hx⟩ := head_cells hf
  simp only [Prod.mk.injEq] at hx
  obtain ⟨ls⟩ := cs
  simp [Value.cells] at hc
  subst hc
  exact ⟨k, c, e, t, s, rfl, hx.1, hx.2, h1, h2, h3, h4, h5⟩
theorem shut_head {H : Type} {enc : TypeId × Value → H} {W : World} {base : Nat} {sp : Nat → Bool} {held : Bool} {k c e t s : Int} (h : HdOk k c e t s) :
    DataW.Trod enc Tryz.prog W base sp held 24 (.agg (hdv k c e t s)) (hdat k c e t s) [] :=
  ⟨3, by
    obtain ⟨h1, h2, h3, h4, h5⟩ := h
    unfold ok8 oku at *
    simp [DataW.trod, Value.cells, hdv, Tryz.underlying24, Tryz.underlying5, Tryz.underlying22, cellsHead, cellsByte, cellsU32h, h1, h2, h3, h4, h5, hdat]⟩
theorem oku_nat {a : Int} (h : oku a) : ∃ n : Nat, a = n ∧ n < 4294967296 := by
  have : 0 ≤ a ∧ a ≤ 4294967295 := by simpa [oku, Lit.wf, IntKind.min, IntKind.max, IntKind.signed, IntKind.bits] using h
  exact ⟨a.toNat, by omega, by omega⟩
theorem HdOk.nats {k c e t s : Int} (h : HdOk k c e t s) : ∃ k' c' e' t' s' : Nat, hdv k c e t s = hvs k' c' e' t' s' ∧ HIn k' c' e' t' s' := by
  obtain ⟨h1, h2, h3, h4, h5⟩ := h
  obtain ⟨k', rfl, a1⟩ := ok8_nat h1
  obtain ⟨c', rfl, a2⟩ := ok8_nat h2
  obtain ⟨e', rfl, a3⟩ := oku_nat h3
  obtain ⟨t', rfl, a4⟩ := oku_nat h4
  obtain ⟨s', rfl, a5⟩ := oku_nat h5
  exact ⟨k', c', e', t', s', rfl, a1, a2, a3, a4, a5⟩
set_option maxHeartbeats 400000 in
theorem few20_any (w : World) (a1 a2 : Option Addr) (n1 n2 c1 c2 : Nat) (L M : List EnE) (h1 : L.length = n1) (h2 : M.length = n2) (e1 : EntsAt w a1 L) (e2 : EntsAt w a2 M) (z1 : esz L ≤ 1048576) (z2 : esz M ≤ 1048576) :
    Calls Tryz.prog 5 #[.slice a1 n1 c1, .slice a2 n2 c2] w fun e w' => e = .returned (.bool (decide (esz L ≤ 400) && decide (esz M ≤ 400))) ∧ Fr Nobody w w' := by
  have HF : Hid (Calls _ _ _ _ _) := few_any w a1 n1 c1 L h1 e1 z1
  have HG : Hid (∀ W, Fr Nobody w W → Calls Tryz.prog 14 #[.slice a2 n2 c2] W fun e w' => e = .returned (.bool (decide (esz M ≤ 400))) ∧ Fr Nobody W w') := fun W hf => few_any W a2 n2 c2 M h2 (e2.quiet hf) z2
  clear h1 h2 e1 e2 z1 z2
  generalize decide (esz L ≤ 400) = r1 at *
  generalize decide (esz M ≤ 400) = r2 at *
  cases r1
  · go_enter Tryz.func5, Tryz.ntmps5
    go_wp2_with fail
    refine HF.out.mono ?_
    rintro e w1 ⟨rfl, hf1⟩
    have H1 : Hid (Fr Nobody w w1) := hf1
    clear hf1 HF HG
    go_wp2
    go_ret
    exact ⟨rfl, H1.out⟩
  · go_enter Tryz.func5, Tryz.ntmps5
    go_wp2_with fail
    refine HF.out.mono ?_
    rintro e w1 ⟨rfl, hf1⟩
    have H1 : Hid (Fr Nobody w w1) := hf1
    have HG1 : Hid (Calls _ _ _ _ _) := HG.out w1 hf1
    clear hf1 HF HG
    go_wp2_with fail
    refine HG1.out.mono ?_
    rintro e w2 ⟨rfl, hf2⟩
    have H2 : Hid (Fr Nobody w w2) := H1.out.trans hf2
    clear hf2 HG1 H1
    go_wp2
    go_ret
    exact ⟨rfl, H2.out⟩
end Go.Proofs.YtlncgkbgelejmaaGreatDoor

/-
  The document's example of a packet; steps from a snapshot to itself, sealed.
-/
namespace Go.Proofs.YtlncgkbgelejmaaGreatDoor
open Go.RowKit
set_option linter.unusedVariables false
set_option maxRecDepth 100000

theorem right3 : Right 3 2 1 5 0 := ⟨by decide, by decide, by decide, by decide, by decide, by decide, by decide, by decide, by decide⟩
theorem ack_len : nb (headB 3 2 1 5 0 ++ []).length = 6 := by decide +kernel
theorem ack_pack : pack (headB 3 2 1 5 0 ++ []) = [146, 80, 0, 0, 0, 0] := by decide +kernel
set_option maxHeartbeats 1000000 in
theorem awake20 (w : World) (htf : Tabf w) : Calls Tryz.prog 4 #[] w fun e w' => e = .returned (.bool true) ∧ Fr Nobody w w' := by
  have hS := pseal_ok w w htf [] (Own.start w) 3 2 1 5 0 right3 (.slice none 0 0) (.slice none 0 0) [] (by decide +kernel) (by decide) (fun w' p b X hw => by
    rw [List.append_nil]
    exact content_no w w' _ p 3 _ none 0 hw (by decide) (by decide))
  rw [ack_len, ack_pack] at hS
  have HS : Hid (Calls Tryz.prog 11 #[.agg #[.int .u8 3, .int .u8 2, .int .u32 1, .int .u32 5, .int .u32 0], .slice none 0 0, .slice none 0 0] w _) := hS
  clear hS htf
  go_enter Tryz.func4, Tryz.ntmps4
  go_wp2_with fail
  refine HS.out.mono ?_
  rintro x w1 ⟨g, cp, rfl, h1⟩
  have hin : In w1 (some ⟨g, 0, none⟩) (6 + 4) cp (frm [146, 80, 0, 0, 0, 0]) := In.of_row h1.row (by rw [length_frm]; rfl) (frm_byte _ (by decide))
  have hfo := frm_opens [146, 80, 0, 0, 0, 0] 6 rfl
  have hO := ropen_ok w1 (some ⟨g, 0, none⟩) cp 6 (frm [146, 80, 0, 0, 0, 0]) hin (by decide) hfo.1
  rw [hfo.2] at hO
  have HO : Hid (Calls Tryz.prog 12 #[.slice (some ⟨g, 0, none⟩) 10 cp] w1 _) := hO
  have H1 : Hid (Own w w1 _) := h1
  clear hO hin hfo h1 HS
  go_wp2_with fail
  refine HO.out.mono ?_
  rintro x w2 ⟨v, rfl, hr, hf⟩
  have h2 := H1.out.quiet hf
  have h3 := h2.litRow #[.int .u8 146, .int .u8 80, .int .u8 0, .int .u8 0, .int .u8 0, .int .u8 0] 5 1 6 (by decide) rfl
  have HSM : Hid (Calls _ _ _ _ _) := same_any (w2.alloc (.cells #[.int .u8 146, .int .u8 80, .int .u8 0, .int .u8 0, .int .u8 0, .int .u8 0] 5)) v (.slice (some ⟨w2.heap.size, 0, none⟩) 6 6) [146, 80, 0, 0, 0, 0] (Src.of_row ((row_weak hr).alloc _)) (Src.of_row h3.row)
  have HF : Hid (Fr Nobody w (w2.alloc (.cells #[.int .u8 146, .int .u8 80, .int .u8 0, .int .u8 0, .int .u8 0, .int .u8 0] 5))) := h3.fr
  clear h2 h3 hf HO H1 hr
  go_wp2_with fail
  refine HSM.out.mono ?_
  rintro x w3 ⟨rfl, rfl⟩
  clear HSM
  go_wp2
  go_ret
  exact ⟨rfl, HF.out⟩
/-- the bits of a step that changes nothing -/
def stepB (t s : Nat) : List Bool := headB 2 0 1 t s ++ ((var 0 ++ var 0) ++ var 0)
theorem var1_len : (var 1).length = 5 := by decide +kernel
theorem stepB_len (t s : Nat) (h : t = s + 1) : nb (stepB t s).length = 8 := by
  have e : t - s - 1 = 0 := by omega
  unfold stepB headB
  rw [if_pos (by rfl), if_pos rfl, e]
  simp only [List.length_append, length_bitsN, length_var0, var1_len, wid15, wid015]
  decide
set_option maxHeartbeats 1000000 in
theorem pseal_same (w0 w : World) (htb : Tab w0) (htf : Tabf w0) (l : List Thing) (h : Own w0 w l) (t s : Nat) (hts : t = s + 1) (ht : t < 4294967296) (aw an : Option Addr) (nw nn cw cn : Nat) (W N : List EnE) (hQ : ∀ w', Own w0 w' l → EntsAt w' aw W ∧ EntsAt w' an N) (hW : W.length = nw) (hN : N.length = nn) (hcw : nw ≤ cw) (hcn : nn ≤ cn) (hmw : cw ≤ 9223372036854775807) (hmn : cn ≤ 9223372036854775807) (hIW : EIn W) (hIN : EIn N) (hzW : esz W ≤ 1000000) (hzN : esz N ≤ 1000000) (hf : fm 0 (evs W) = 0) (he : evs W = evs N) :
    Calls Tryz.prog 11 #[.agg #[.int .u8 2, .int .u8 0, .int .u32 1, .int .u32 (t : Int), .int .u32 (s : Int)], .slice aw nw cw, .slice an nn cn] w fun x w' => ∃ g cp, x = .returned (.tuple #[.slice (some ⟨g, 0, none⟩) 12 cp, .int .i64 0]) ∧ Own w0 w' (Row 5 1 (.slice (some ⟨g, 0, none⟩) 12 cp) 12 (vrow (frm (pack (stepB t s)))) :: l) := by
  have hR : Right 2 0 1 t s := ⟨by decide, by decide, by decide, by decide, by decide, ht, by omega, rfl, by unfold bfit; simp; omega⟩
  have hhl := headB_le 2 0 1 t s (by decide) ht
  have h := pseal_ok w0 w htf l h 2 0 1 t s hR (.slice aw nw cw) (.slice an nn cn) ((var 0 ++ var 0) ++ var 0) (by simp only [List.length_append, length_var0]; omega) (by simp only [List.length_append, length_var0]; omega) (fun w' p b X hw => by
    have hc := content_same w0 w' htb (X :: l) p b _ hw aw an nw nn cw cn W N (fun w2 hw2 => hQ w2 hw2.tail) hW hN hcw hcn hmw hmn hIW hIN hzW hzN hf he (by omega)
    rw [List.append_assoc, List.append_assoc, ← List.append_assoc (var 0)] at hc
    exact hc)
  have e : nb (headB 2 0 1 t s ++ ((var 0 ++ var 0) ++ var 0)).length = 8 := stepB_len t s hts
  rw [e] at h
  exact h
end Go.Proofs.YtlncgkbgelejmaaGreatDoor

/-
  Lists of entities that are alike; where they lie.
-/
namespace Go.Proofs.YtlncgkbgelejmaaGreatDoor
open Go.RowKit
set_option linter.unusedVariables false
set_option maxRecDepth 100000

theorem evs_get {L M : List EnE} (h : evs L = evs M) {j : Nat} {x : EnE} (hx : L[j]? = some x) : ∃ y, M[j]? = some y ∧ y.id = x.id ∧ y.C = x.C := by
  have h1 : (evs M)[j]? = some (x.id, x.C) := by rw [← h]; exact evs_at hx
  unfold evs at h1
  rw [List.getElem?_map] at h1
  obtain ⟨y, hy, e⟩ := Option.map_eq_some_iff.1 h1
  simp only [Prod.mk.injEq] at e
  exact ⟨y, hy, e.1, e.2⟩
theorem evs_mem {L M : List EnE} (h : evs L = evs M) {x : EnE} (hx : x ∈ L) : ∃ y ∈ M, y.id = x.id ∧ y.C = x.C := by
  obtain ⟨j, hj⟩ := List.getElem?_of_mem hx
  obtain ⟨y, hy, e⟩ := evs_get h hj
  exact ⟨y, List.mem_of_getElem? hy, e⟩
theorem EIn.of_evs {L M : List EnE} (h : evs L = evs M) (hM : EIn M) : EIn L := fun x hx => by
  obtain ⟨y, hy, e1, e2⟩ := evs_mem h hx
  rw [← e1, ← e2]
  exact hM y hy
theorem csz_evs {L M : List EnE} (h : evs L = evs M) : csz L = csz M := by
  induction L generalizing M with
  | nil => cases M with
    | nil => rfl
    | cons y s => simp [evs] at h
  | cons x t ih =>
    cases M with
    | nil => simp [evs] at h
    | cons y s =>
      simp only [evs, List.map_cons, List.cons.injEq, Prod.mk.injEq] at h
      simp only [csz]
      rw [ih h.2, h.1.2]
theorem esz_evs {L M : List EnE} (h : evs L = evs M) : esz L = esz M := by
  have h1 := congrArg List.length h
  rw [evs_len, evs_len] at h1
  unfold esz
  rw [h1, csz_evs h]
theorem Own.entsCap {w0 w : World} {l : List Thing} {ao : Option Addr} {cap : Nat} {L : List EnE} (h : Own w0 w (EntsT ao cap L :: l)) : L.length ≤ cap ∧ cap ≤ 9223372036854775807 := by
  obtain ⟨_, h1⟩ := Own.ex_iff.1 h
  rcases h1.row.2 with ⟨hv, h0⟩ | ⟨g, cp, cur, hv, _, _, h3, h4, _⟩
  · simp only [Value.slice.injEq] at hv
    omega
  · simp only [Value.slice.injEq] at hv
    unfold maxLen at h4
    omega
end Go.Proofs.YtlncgkbgelejmaaGreatDoor

/-
  The table that the program's text lays: what its reading gives.
-/
namespace Go.Proofs.YtlncgkbgelejmaaGreatDoor
open Go.ChangeShapes Go.WideShapes Go.ChangeAt Go.WideMaps Go.WideElems Go.RowKit
set_option linter.unusedVariables false
set_option maxRecDepth 100000

theorem gSteps : Tryz.prog.globalNamed "pinnace/frame.steps" = some 0 := by kernel_rfl
theorem tSteps : (Tryz.prog.globals[0]?).map (·.type) = some 137 := by kernel_rfl

theorem tbl_vals : (List.range 16).map tbl = [0, 498536548, 997073096, 651767980, 1994146192, 1802195444, 1303535960, 1342533948, 3988292384, 4027552580, 3604390888, 3412177804, 2607071920, 2262029012, 2685067896, 3183342108] := by decide +kernel
theorem steps_at (i : Nat) (hi : i < 16) : ([DataW.lit (Lit.int IntKind.u32 0), DataW.lit (Lit.int IntKind.u32 498536548), DataW.lit (Lit.int IntKind.u32 997073096), DataW.lit (Lit.int IntKind.u32 651767980), DataW.lit (Lit.int IntKind.u32 1994146192), DataW.lit (Lit.int IntKind.u32 1802195444), DataW.lit (Lit.int IntKind.u32 1303535960), DataW.lit (Lit.int IntKind.u32 1342533948), DataW.lit (Lit.int IntKind.u32 3988292384), DataW.lit (Lit.int IntKind.u32 4027552580), DataW.lit (Lit.int IntKind.u32 3604390888), DataW.lit (Lit.int IntKind.u32 3412177804), DataW.lit (Lit.int IntKind.u32 2607071920), DataW.lit (Lit.int IntKind.u32 2262029012), DataW.lit (Lit.int IntKind.u32 2685067896), DataW.lit (Lit.int IntKind.u32 3183342108)] : List (DataW Unit))[i]? = some (DataW.lit (Lit.int IntKind.u32 ((tbl i : Nat) : Int))) := by
  have e : (tbl i) = ((List.range 16).map tbl)[i]?.getD 0 := by simp [hi]
  rw [e, tbl_vals]
  clear e
  match i, hi with
  | 0, _ => rfl
  | 1, _ => rfl
  | 2, _ => rfl
  | 3, _ => rfl
  | 4, _ => rfl
  | 5, _ => rfl
  | 6, _ => rfl
  | 7, _ => rfl
  | 8, _ => rfl
  | 9, _ => rfl
  | 10, _ => rfl
  | 11, _ => rfl
  | 12, _ => rfl
  | 13, _ => rfl
  | 14, _ => rfl
  | 15, _ => rfl
  | n + 16, h => exact absurd h (by omega)
theorem of_laidf {W : World} (h : laidMetH Tryz.prog laid1 W) : Tabf W := by
  rw [MakeChecks.laidMetH_plain _ _ _ (by kernel_rfl)] at h
  obtain ⟨ps, ⟨g0, t0, cs0, f0, p0, q0, hg0, ht0, hv0, hd0, _, _⟩, _, _⟩ := h
  obtain rfl := Option.some.inj (gSteps.symm.trans hg0)
  obtain rfl := Option.some.inj (tSteps.symm.trans ht0)
  obtain ⟨xs, m1, rfl, hx1, hlen, hn3, hel⟩ := DataW.trod_array Tryz.underlying137 hd0
  have c3 : Tryz.prog.cellsOf 22 = 1 := by kernel_rfl
  have c24 : Tryz.prog.cellsOf 137 = 16 := by kernel_rfl
  simp only [Prod.mk.injEq, DataW.agg.injEq, Rows.laid_pinnace_frame_steps] at hx1
  intro i hi
  have h0 := hel i hi
  have hxi : xs[i]? = some xs[i] := List.getElem?_eq_getElem (by rw [hn3]; exact hi)
  obtain ⟨k, e1, e2, _⟩ := DataW.trod_int Tryz.underlying22 (h0.trans hxi)
  have hk : k = ((tbl i : Nat) : Int) := by
    have h1 := steps_at i hi
    rw [hx1.1, List.getElem?_map, hxi] at h1
    simp only [Option.map_some, Option.some.injEq] at h1
    rw [e2] at h1
    simpa using h1
  subst hk
  have := World.var?_cell hg0 hv0 i
  rw [this]
  rw [c3, Nat.mul_one] at e1
  have h2 : (List.take 1 (List.drop i cs0.toList))[0]? = some (Value.int IntKind.u32 ((tbl i : Nat) : Int)) := by rw [e1]; rfl
  rw [List.getElem?_take, if_pos (by decide), List.getElem?_drop, Nat.add_zero, Array.getElem?_toList] at h2
  exact h2

theorem u16_rng {n : Int} (h : (Lit.int .u16 n).wf = true) : ∃ k : Nat, n = k ∧ k < 65536 := by
  have : 0 ≤ n ∧ n ≤ 65535 := by simpa [Lit.wf, IntKind.min, IntKind.max, IntKind.signed, IntKind.bits] using h
  exact ⟨n.toNat, by omega, by omega⟩
theorem u32_rng {n : Int} (h : (Lit.int .u32 n).wf = true) : ∃ k : Nat, n = k ∧ k < 4294967296 := by
  have : 0 ≤ n ∧ n ≤ 4294967295 := by simpa [Lit.wf, IntKind.min, IntKind.max, IntKind.signed, IntKind.bits] using h
  exact ⟨n.toNat, by omega, by omega⟩
theorem u8_rng {n : Int} (h : (Lit.int .u8 n).wf = true) : ∃ k : Nat, n = k ∧ k < 256 := by
  have : 0 ≤ n ∧ n ≤ 255 := by simpa [Lit.wf, IntKind.min, IntKind.max, IntKind.signed, IntKind.bits] using h
  exact ⟨n.toNat, by omega, by omega⟩
end Go.Proofs.YtlncgkbgelejmaaGreatDoor

