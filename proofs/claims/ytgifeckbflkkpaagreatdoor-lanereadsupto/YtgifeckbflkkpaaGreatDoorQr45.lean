/- The document's Seal: steps. -/
import Derived.Test.YtgifeckbflkkpaaGreatDoorQr44
import Derived.Test.YtgifeckbflkkpaaGreatDoorQr27
import Derived.Deep.RegionHeld3
namespace Go.Proofs.YtgifeckbflkkpaaGreatDoor
open Go.RowKit
set_option linter.unusedVariables false
set_option maxHeartbeats 16000000
set_option maxRecDepth 100000
theorem spos : ∀ {k : Nat} {F G : Nat → Int},chk k G = 0 → 0 < (sbs k F G (cnt k)).length := by
 intro k F G h
 have hc : 0 < cnt k := by
  have h6 := (chk_ok _ _ h).1
  have : ∀ j : Fin 6,0 < cnt j.1 := by decide +kernel
  exact this ⟨k,h6⟩
 obtain ⟨m,hm⟩ : ∃ m,cnt k = m + 1 := ⟨cnt k - 1,by omega⟩
 rw [hm,sbs,List.length_append]
 have : 0 < (sb k F G m).length := by
  unfold sb
  split
  ·simp [length_bitsN]
  ·split <;> simp only [List.length_append,length_bitsN] <;> omega
 omega
theorem en_one {L : List En} (h : L.Pairwise (fun a b => a.1 < b.1)) {x y : En} (hx : x ∈ L) (hy : y ∈ L) (e : x.1 = y.1) : x = y := by
 induction L with
 | nil => cases hx
 | cons z t ih =>
  have h1 := List.pairwise_cons.1 h
  rcases List.mem_cons.1 hx with ex | hx'
  ·rcases List.mem_cons.1 hy with ey | hy'
   ·rw [ex,ey]
   ·have := h1.1 y hy'; rw [ex] at e; omega
  ·rcases List.mem_cons.1 hy with ey | hy'
   ·have := h1.1 x hx'; rw [ey] at e; omega
   ·exact ih h1.2 hx' hy'
theorem stpB_pos {A : List Cp} {q y : Cp} (hy : fst A q.k = some y) (h : chk q.k (f3 q.a q.b q.c) = 0) : 0 < (stpB A q).length := by
 unfold stpB
 rw [hy]
 exact spos h
theorem rseal_2 (w0 w : World) (l : List Thing) (h : Own w0 w l) (c e t s : Nat) (hI : HIn 2 c e t s) (hc : hchk 2 c e t s = 0) (aw an : Option Addr) (nw nn cw cn : Nat) (W N : List EnE) (hQ : ∀ w',Own w0 w' l → EntsAt w' aw W ∧ EntsAt w' an N) (hW : W.length = nw) (hN : N.length = nn) (hIW : EIn W) (hIN : EIn N) (hzW : esz W ≤ 400) (hzN : esz N ≤ 400) :
  Calls Tryz.prog 32 #[.agg (hvs 2 c e t s),.slice aw nw cw,.slice an nn cn] w fun x w' => ∃ v code P,x = .returned (.tuple #[v,.int .i64 ((code : Nat) : Int)]) ∧ SealR 2 c e t s (evs W) (evs N) code P ∧ Own w0 w' (Row 5 1 v P.length (vrow P) :: l) := by
 have hR := right_of hI hc
 have hB := h.allocC (hvs 2 c e t s) 29
 have HCH : Hid (Calls _ _ _ _ _) := hrcheck_any (w.alloc (.cells (hvs 2 c e t s) 29)) 2 c e t s hI
 rw [hc] at HCH
 have HB : Hid (Own w0 _ _) := hB
 have HR : Hid (Right 2 c e t s) := hR
 have zz : ∀ X : List EnE,(evs X).length + cszV (evs X) = esz X := fun X => by rw [evs_len,cszV_evs]; rfl
 have HCL : Hid (ccode 2 (evs W) (evs N) = 0 → (headB 2 c e t s ++ contB 2 (evs W) (evs N)).length ≤ 401000 ∧ 0 < (headB 2 c e t s ++ contB 2 (evs W) (evs N)).length) := fun hc => by
  have h1 := contB_le (k := 2) (W := evs W) (N := evs N) (fun x hx => by
   obtain ⟨y,hy,rfl⟩ := List.mem_map.1 hx
   exact (hIW y hy).1) (fun x hx => by
   obtain ⟨y,hy,rfl⟩ := List.mem_map.1 hx
   exact (hIN y hy).1) (by rw [zz]; exact hzW) (by rw [zz]; exact hzN) hc
  have h2 := headB_le 2 c e t s hI.e hI.t
  have h3 : 3 ≤ (headB 2 c e t s).length := by unfold headB; simp only [List.length_append,length_bitsN,wid15]; omega
  rw [List.length_append]
  omega
 have HSR : Hid ((ccode 2 (evs W) (evs N) ≠ 0 → SealR 2 c e t s (evs W) (evs N) (ccode 2 (evs W) (evs N)) []) ∧ (ccode 2 (evs W) (evs N) = 0 → ∀ L : List Bool,L = headB 2 c e t s ++ contB 2 (evs W) (evs N) → ¬ nb L.length ≤ 4096 → SealR 2 c e t s (evs W) (evs N) 3 [])) := ⟨fun h2 => sealR_no (ccode_lt _ _ _) h2 (secode_c hc h2),fun h2 L hL hl => sealR_no (by decide) (by decide) (secode_l hc h2 hL hl)⟩
 have HSY : Hid (∀ P,(∀ x ∈ P,x < 256) → ccode 2 (evs W) (evs N) = 0 → P = frm (pack (headB 2 c e t s ++ contB 2 (evs W) (evs N))) → P.length ≤ 4100 → SealR 2 c e t s (evs W) (evs N) 0 P) := fun P h1 h3 h4 h5 => sealR_yes h1 hc hR h3 h4 h5
 have HQ : Hid ((∀ w',Own w0 w' l → EntsAt w' aw W ∧ EntsAt w' an N) ∧ W.length = nw ∧ N.length = nn ∧ EIn W ∧ EIn N ∧ esz W ≤ 400 ∧ esz N ≤ 400) := ⟨hQ,hW,hN,hIW,hIN,hzW,hzN⟩
 have HIH : Hid (HIn 2 c e t s) := hI
 have q0 := hB.cell 0
 have q1 := hB.cell 1
 have q2 := hB.cell 2
 have q3 := hB.cell 3
 have q4 := hB.cell 4
 simp [hvs] at q0 q1 q2 q3 q4
 have hn8 : nn ≤ 400 := by unfold esz at hzN; omega
 clear h hB hR hQ hW hN hIW hIN hzW hzN zz hc hI
 unfold hvs at HCH ⊢
 go_enter Tryz.func32,Tryz.ntmps32
 go_wp2_with fail
 refine HCH.out.mono ?_
 rintro x w1 ⟨rfl,hf1⟩
 have h1 := HB.out.quiet hf1
 have HHD : Hid (Calls Tryz.prog 73 #[.agg #[.int .u8 2,.int .u8 (c : Int),.int .u32 (e : Int),.int .u32 (t : Int),.int .u32 (s : Int)]] _ _) := rhead w0 w1 _ h1 2 c e t s HR.out
 have p0 := h1.cell 0
 have p1 := h1.cell 1
 have p2 := h1.cell 2
 have p3 := h1.cell 3
 have p4 := h1.cell 4
 simp [hvs] at p0 p1 p2 p3 p4
 clear hf1 h1 HCH HB q0 q1 q2 q3 q4
 generalize w.heap.size = bh at *
 go_wp2_with fail
 refine HHD.out.mono ?_
 rintro x w2 ⟨v2,rfl,h2⟩
 have r0 := h2.two.cell 0
 simp [hvs] at r0
 clear HHD p0 p1 p2 p3 p4
 have HDF : Hid (Calls _ _ _ _ _) := rdiff_any w0 w2 _ h2 aw an nw nn cw cn W N (fun w' hw => HQ.out.1 w' hw.tail.tail) HQ.out.2.1 HQ.out.2.2.1 HQ.out.2.2.2.1 HQ.out.2.2.2.2.1 (by have := HQ.out.2.2.2.2.2.1; omega) (by have := HQ.out.2.2.2.2.2.2; omega)
 have hdl : dcode (evs W) (evs N) < 4294967296 := ccode_lt 2 (evs W) (evs N)
 have HCC : Hid (ccode 2 (evs W) (evs N) = dcode (evs W) (evs N)) := rfl
 clear h2
 by_cases hd0 : dcode (evs W) (evs N) = 0
 ·obtain ⟨a1,a2⟩ := dcode_0 hd0
  have HD0 : Hid (dcode (evs W) (evs N) = 0 ∧ fm 0 (evs W) = 0 ∧ fm 0 (evs N) = 0) := ⟨hd0,a1,a2⟩
  rw [hd0] at HDF
  clear hd0 a1 a2 hdl
  have z0 : ((0 : Int) != 0) = false := rfl
  go_wp2_with fail
  refine HDF.out.mono ?_
  rintro x w3 ⟨d,rfl,hdv,h3⟩
  have hdv2 : d.v = btw (evs W) (evs N) := by rw [hdv]; unfold dlv; rw [if_pos HD0.out.1]
  have hok := dtOk_of HD0.out.2.1 HD0.out.2.2 HQ.out.2.2.2.1 HQ.out.2.2.2.2.1 hdv2
  have hds := dsz_of HD0.out.2.1 HD0.out.2.2 hdv2
  have hds2 : dsz d ≤ 2000 := by have h1 := HQ.out.2.2.2.2.2.1; have h2 := HQ.out.2.2.2.2.2.2; omega
  have h5 := (h3.lift.allocC #[.slice d.ga d.G.length d.gc,.slice d.ma d.M.length d.mc,.slice d.ha d.H.length d.hc] 106).two
  unfold DlE.vs
  obtain ⟨bd,hbd⟩ : ∃ bd,bd = w3.heap.size := ⟨_,rfl⟩
  rw [← hbd] at h5
  obtain ⟨LB,hLB⟩ : ∃ LB,LB = (Cells bd #[.slice d.ga d.G.length d.gc,.slice d.ma d.M.length d.mc,.slice d.ha d.H.length d.hc] 106 :: (d.things ++ (Cells bh (hvs 2 c e t s) 29 :: l)) : List Thing) := ⟨_,rfl⟩
  have h6 : Own w0 (w3.alloc (.cells #[.slice d.ga d.G.length d.gc,.slice d.ma d.M.length d.mc,.slice d.ha d.H.length d.hc] 106)) (BT v2 (headB 2 c e t s) :: LB) := by rw [hLB]; exact h5
  have HBD : Hid (∀ w',Own w0 w' LB → w'.cell? ⟨bd,0,none⟩ = some (.slice d.ga d.G.length d.gc) ∧ w'.cell? ⟨bd,1,none⟩ = some (.slice d.ma d.M.length d.mc) ∧ w'.cell? ⟨bd,2,none⟩ = some (.slice d.ha d.H.length d.hc)) := fun w' hw => by
   rw [hLB] at hw
   have y0 := hw.cell 0
   have y1 := hw.cell 1
   have y2 := hw.cell 2
   simp at y0 y1 y2
   exact ⟨y0,y1,y2⟩
  have HDA : Hid (∀ w',Own w0 w' LB → DlAt w' d ∧ EntsAt w' aw W ∧ Own w0 w' l) := fun w' hw => by
   rw [hLB] at hw
   exact ⟨hw.tail.dlAt,(HQ.out.1 w' hw.tail.dropA.tail).1,hw.tail.dropA.tail⟩
  have HOK : Hid (DtOk (evs W) d ∧ d.v = btw (evs W) (evs N)) := ⟨hok,hdv2⟩
  have hg1 : d.G.length ≤ 2000 := by unfold dsz at hds2; omega
  have hg2 : esz d.M ≤ 2000 := by unfold dsz at hds2; omega
  have hg3 : d.H.length + chz (d.H.map ChE.v) ≤ 2000 := by unfold dsz at hds2; omega
  have hg4 : d.M.length ≤ 2000 := by unfold esz at hg2; omega
  have hhl := headB_le 2 c e t s HIH.out.e HIH.out.t
  have HHL : Hid ((headB 2 c e t s).length ≤ 300) := hhl
  have HVL : Hid (∀ n,n ≤ 2000 → (var n).length ≤ 80) := fun n hn => by rw [length_var]; have := (grp_bd n (by omega)).2; omega
  have b0 := HBD.out _ h6.tail
  obtain ⟨b1,b2,b3⟩ := b0
  have HV1 : Hid (Calls Tryz.prog 76 #[.int .u64 (d.G.length : Int)] _ _) := rvarT w0 _ _ h6 d.G.length (by omega)
  clear hLB h3 h5 h6 hdv hdv2 hok hds hds2 hhl HDF r0
  generalize headB 2 c e t s = L0 at *
  subst hbd
  go_wp2_with fail
  refine HV1.out.mono ?_
  rintro x w4 ⟨v4,rfl,h7⟩
  generalize w3.heap.size = bd at *
  have H7 : Hid (Own w0 w4 (BT v4 (var d.G.length) :: BT v2 L0 :: LB)) := h7
  have hvp := var_pos d.G.length
  have hvl := HVL.out d.G.length (by omega)
  have hl0 := HHL.out
  clear h7 HV1 b1 b2 b3
  go_wp2_with (at_builtin; refine app_bits rfl _ _ rfl v2 v4 L0 (var d.G.length) H7.out hvp (by omega) rfl rfl ?_; intro v5 w5 h8; have H8 : Hid (Own w0 w5 (BT v5 (L0 ++ var d.G.length) :: LB)) := h8; have b1 := (HBD.out w5 h8.tail).1; clear h8)
  clear H7 b1
  go_loopw [9,13,65] (fun x9 v13 cc wr => ∃ (j : Nat) (v9 : Value),j ≤ d.G.length ∧ cc = .int .i64 (j : Int) ∧ v9 = x9 ∧ v13 = .int .u32 ((lastI 0 (d.G.take j) : Nat) : Int) ∧ Own w0 wr (BT v9 ((L0 ++ var d.G.length) ++ idsB 0 (d.G.take j)) :: LB)) (fun _ _ cc _ => d.G.length - (intOf cc).toNat)
  case atStart => exact ⟨0,_,Nat.zero_le _,rfl,rfl,rfl,by simpa [idsB] using H8.out⟩
  case round =>
   obtain ⟨j,v9,hj,rfl,rfl,rfl,hO⟩ := hrel
   clear H8
   by_cases hlt : j < d.G.length
   ·obtain ⟨i,hi⟩ : ∃ i,d.G[j]? = some i := ⟨_,List.getElem?_eq_getElem hlt⟩
    obtain ⟨g,o,hga,hcl⟩ := (HDA.out wr hO.tail).1.g.at hi
    have hlt' : (j : Int) < (d.G.length : Int) := by omega
    have htk : d.G.take (j + 1) = d.G.take j ++ [i] := by rw [List.take_add_one,hi]; rfl
    have hil := (HOK.out.1.g1 i (List.mem_of_getElem? hi)).2
    have hla : lastI 0 (d.G.take j) < i := lastI_lt (by rw [← htk]; exact HOK.out.1.gu.sublist (List.take_sublist _ _)) (fun x hx => (HOK.out.1.g1 x (by rw [← htk] at hx; exact List.mem_of_mem_take hx)).1)
    have hil2 := idsB_le 0 (d.G.take j) (fun x hx => (HOK.out.1.g1 x (List.mem_of_mem_take hx)).2)
    have HP : Hid (Calls _ _ _ _ _) := rid w0 wr LB v9 _ (lastI 0 (d.G.take j)) i hO hla hil (by rw [List.length_take] at hil2; rw [List.length_append,List.length_append]; omega)
    have HT : Hid (lastI 0 (d.G.take (j + 1)) = i ∧ idsB 0 (d.G.take (j + 1)) = idsB 0 (d.G.take j) ++ idB (lastI 0 (d.G.take j)) i) := by rw [htk]; exact ⟨lastI_snoc _ _ _,idsB_snoc _ _ _⟩
    rw [hga]
    generalize lastI 0 (d.G.take j) = la at *
    clear hO htk hi hil2
    go_wp2_with fail
    refine HP.out.mono ?_
    rintro x w6 ⟨v6,rfl,h9⟩
    have H9 : Hid (Own w0 w6 (BT v6 ((L0 ++ var d.G.length) ++ idsB 0 (d.G.take (j + 1))) :: LB)) := by
     show Own _ _ _
     rw [HT.out.2,← List.append_assoc]; exact h9
    clear h9 HP
    go_wp2
    go_roundw
    case rel => exact ⟨j + 1,_,by omega,by go_num,rfl,by rw [HT.out.1],H9.out⟩
    case measure => simp [intOf]; omega
   ·have hj2 : j = d.G.length := by omega
    subst hj2
    have hlt' : ¬ (d.G.length : Int) < (d.G.length : Int) := by omega
    rw [List.take_of_length_le (Nat.le_refl _)] at hO
    obtain ⟨L1,hL1⟩ : ∃ L1,L1 = (L0 ++ var d.G.length) ++ idsB 0 d.G := ⟨_,rfl⟩
    rw [← hL1] at hO
    have HL1 : Hid (L1 = (L0 ++ var d.G.length) ++ idsB 0 d.G) := hL1
    have hl1 : L1.length ≤ 170000 := by
     have := idsB_le 0 d.G (fun x hx => (HOK.out.1.g1 x hx).2)
     rw [hL1,List.length_append,List.length_append]
     omega
    have b2 := (HBD.out wr hO.tail).2.1
    have HEN : Hid (Calls _ _ _ _ _) := rents w0 wr LB v9 L1 d.ma d.M.length d.mc d.M hO (fun w' hw => (HDA.out w' hw).1.m) rfl HOK.out.1.mi HOK.out.1.mu HOK.out.1.mo (by omega)
    clear hO hL1 hlt
    go_wp2_with fail
    refine HEN.out.mono ?_
    rintro x w6 ⟨v6,rfl,h9⟩
    obtain ⟨L2,hL2⟩ : ∃ L2,L2 = (L1 ++ var d.M.length) ++ entsB 0 (evs d.M) := ⟨_,rfl⟩
    rw [← hL2] at h9
    have HL2 : Hid (L2 = (L1 ++ var d.M.length) ++ entsB 0 (evs d.M)) := hL2
    have hl2 : L2.length ≤ 400000 := by
     have h1 := entsB_le 0 (evs d.M) (fun x hx => by
      obtain ⟨y,hy,rfl⟩ := List.mem_map.1 hx
      exact (HOK.out.1.mi y hy).1)
     have h2 := HVL.out d.M.length (by omega)
     rw [evs_len,cszV_evs] at h1
     unfold esz at hg2
     rw [hL2,List.length_append,List.length_append]
     omega
    have b3 := (HBD.out w6 h9.tail).2.2
    have HV2 : Hid (Calls Tryz.prog 76 #[.int .u64 (d.H.length : Int)] _ _) := rvarT w0 w6 _ h9 d.H.length (by omega)
    clear h9 hL2 HEN b2
    go_wp2_with fail
    refine HV2.out.mono ?_
    rintro x w7 ⟨v7,rfl,h10⟩
    have H10 : Hid (Own w0 w7 (BT v7 (var d.H.length) :: BT v6 L2 :: LB)) := h10
    have hvp2 := var_pos d.H.length
    have hvl2 := HVL.out d.H.length (by omega)
    clear h10 HV2 b3
    go_wp2_with (at_builtin; refine app_bits rfl _ _ rfl v6 v7 L2 (var d.H.length) H10.out hvp2 (by omega) rfl rfl ?_; intro v8 w8 h11; have H11 : Hid (Own w0 w8 (BT v8 (L2 ++ var d.H.length) :: LB)) := h11; have b3 := (HBD.out w8 h11.tail).2.2; clear h11)
    clear H10 b3
    go_loopw [9,13,89] (fun x9 v13 cc wr => ∃ (k : Nat) (v9 : Value),k ≤ d.H.length ∧ cc = .int .i64 (k : Int) ∧ v9 = x9 ∧ v13 = .int .u32 ((lastI 0 (((d.H.map ChE.v).take k).map (·.id)) : Nat) : Int) ∧ Own w0 wr (BT v9 ((L2 ++ var d.H.length) ++ chgsB (evs W) 0 ((d.H.map ChE.v).take k)) :: LB)) (fun _ _ cc _ => d.H.length - (intOf cc).toNat)
    case atStart => exact ⟨0,_,Nat.zero_le _,rfl,rfl,rfl,by simpa [chgsB] using H11.out⟩
    case round =>
     obtain ⟨k,v9,hk,rfl,rfl,rfl,hO⟩ := hrel
     clear H11
     by_cases hlt : k < d.H.length
     ·obtain ⟨x,hx⟩ : ∃ x,d.H[k]? = some x := ⟨_,List.getElem?_eq_getElem hlt⟩
      obtain ⟨g,o,hga,⟨c0,c1,c2,c3⟩,-,-⟩ := (HDA.out wr hO.tail).1.h.at hx
      have hlt' : (k : Int) < (d.H.length : Int) := by omega
      have hxe : (d.H.map ChE.v)[k]? = some x.v := by rw [List.getElem?_map,hx]; rfl
      have htk : (d.H.map ChE.v).take (k + 1) = (d.H.map ChE.v).take k ++ [x.v] := by rw [List.take_add_one,hxe]; rfl
      have hco := HOK.out.1.ho x (List.mem_of_getElem? hx)
      have hmm : (d.H.map ChE.v).map (·.id) = d.H.map (·.id) := by rw [List.map_map]; rfl
      have hla : lastI 0 (((d.H.map ChE.v).take k).map (·.id)) < x.id := by
       have hP : (((d.H.map ChE.v).take (k + 1)).map (·.id)).Pairwise (· < ·) := by rw [List.map_take,hmm]; exact HOK.out.1.hu.sublist (List.take_sublist _ _)
       rw [htk,List.map_append] at hP
       refine lastI_lt hP (fun y hy => ?_)
       have hy2 : y ∈ ((d.H.map ChE.v).take (k + 1)).map (·.id) := by rw [htk,List.map_append]; exact hy
       obtain ⟨z,hz,rfl⟩ := List.mem_map.1 hy2
       obtain ⟨z',hz',rfl⟩ := List.mem_map.1 (List.mem_of_mem_take hz)
       exact (HOK.out.1.ho z' hz').id0
      have hsz := chgsB_le (evs W) 0 ((d.H.map ChE.v).take k) (fun z hz => by
       obtain ⟨y,hy,rfl⟩ := List.mem_map.1 (List.mem_of_mem_take hz)
       exact (HOK.out.1.ho y hy).id32)
      rw [List.length_take] at hsz
      have hcz := chz_take (d.H.map ChE.v) hxe
      have hcz2 : x.N.length + x.S.length ≤ 2000 := by have : (x.v.new.length + x.v.set.length) = x.N.length + x.S.length := rfl; omega
      have hib := idB_le (lastI 0 (((d.H.map ChE.v).take k).map (·.id))) x.id hco.id32
      obtain ⟨e0,he0⟩ := hco.there
      obtain ⟨m0,y0,hym,hyi,hyc⟩ := fstE_at he0
      have hb1 : g < wr.heap.size := World.block_lt_of_cell? wr _ c0
      have hb2 : wr.heap.size ≠ g := by omega
      have hB := (hO.allocC #[.int .u32 (x.id : Int),.int .u8 (x.lost : Int),.slice x.na x.N.length x.nc,.slice x.sa x.S.length x.sc] 112).two
      have hb0 : ((L2 ++ var d.H.length) ++ chgsB (evs W) 0 ((d.H.map ChE.v).take k)).length ≤ 700000 := by
       rw [List.length_append,List.length_append]; omega
      have HP : Hid (Calls _ _ _ _ _) := rid w0 _ _ v9 _ (lastI 0 (((d.H.map ChE.v).take k).map (·.id))) x.id hB hla hco.id32 (by omega)
      have HT2 : Hid (lastI 0 (((d.H.map ChE.v).take (k + 1)).map (·.id)) = x.id ∧ chgsB (evs W) 0 ((d.H.map ChE.v).take (k + 1)) = chgsB (evs W) 0 ((d.H.map ChE.v).take k) ++ chgB (evs W) (lastI 0 (((d.H.map ChE.v).take k).map (·.id))) x.v) := by
       rw [htk]
       exact ⟨by rw [List.map_append]; exact lastI_snoc _ _ _,chgsB_snoc _ _ _ _⟩
      have HCB : Hid (∀ a,chgB (evs W) a x.v = idB a x.id ++ (bitsN 5 x.lost ++ (bitsN 5 (msk x.N) ++ (bitsN 5 (msk x.S) ++ (cpsB x.N ++ stpsB y0.C x.S))))) := fun a => by unfold chgB; rw [hyc.symm]; rfl
      have HMN : Hid (∀ Z X,Own w0 Z (X ++ LB) → Calls Tryz.prog 79 #[.slice x.na x.N.length x.nc] Z fun e w' => e = .returned (.int .u8 ((msk x.N : Nat) : Int)) ∧ Own w0 w' (X ++ LB)) := fun Z X hX => by
       obtain ⟨_,_,_,_,hn1,_⟩ := (HDA.out Z hX.dropA).1.h.at hx
       refine (rmask_any Z x.na x.N.length x.nc x.N rfl hn1 (fun q hq => (hco.kn q hq).1) (by omega)).mono ?_
       rintro e w' ⟨rfl,hf⟩
       exact ⟨rfl,hX.quiet hf⟩
      have HMS : Hid (∀ Z X,Own w0 Z (X ++ LB) → Calls Tryz.prog 79 #[.slice x.sa x.S.length x.sc] Z fun e w' => e = .returned (.int .u8 ((msk x.S : Nat) : Int)) ∧ Own w0 w' (X ++ LB)) := fun Z X hX => by
       obtain ⟨_,_,_,_,_,hs1⟩ := (HDA.out Z hX.dropA).1.h.at hx
       refine (rmask_any Z x.sa x.S.length x.sc x.S rfl hs1 hco.ks (by omega)).mono ?_
       rintro e w' ⟨rfl,hf⟩
       exact ⟨rfl,hX.quiet hf⟩
      have HMP : Hid (∀ Z u M X (q : Nat),Own w0 Z (BT u M :: X :: LB) → q < 32 → M.length + 5 ≤ 1048576 → Calls Tryz.prog 78 #[u,.int .u64 (q : Int),.int .i64 5] Z fun e w' => ∃ u',e = .returned (.tuple #[u',.int .i64 0]) ∧ Own w0 w' (BT u' (M ++ bitsN 5 q) :: X :: LB)) := fun Z u M X q hZ hq hM => rputT w0 Z _ u M q 5 hZ (by decide) hq (by omega) hM
      have HCP : Hid (∀ Z u M X,Own w0 Z (BT u M :: X :: LB) → M.length + 60 * x.N.length + 200 ≤ 1048576 → Calls Tryz.prog 80 #[u,.slice x.na x.N.length x.nc] Z fun e w' => ∃ u',e = .returned u' ∧ Own w0 w' (BT u' (M ++ cpsB x.N) :: X :: LB)) := fun Z u M X hZ hM => rcomps w0 Z _ u M x.na x.N.length x.nc x.N hZ (fun w' hw' => by
        obtain ⟨_,_,_,_,hn1,_⟩ := (HDA.out w' hw'.tail).1.h.at hx
        exact hn1) rfl (fun q hq => (hco.kn q hq).1) (fun q hq => (hco.kn q hq).2) hM
      have HSC : Hid (∀ Z,Own w0 Z LB → Cs Z x.sa x.S) := fun Z hZ => by
       obtain ⟨_,_,_,_,_,hs1⟩ := (HDA.out Z hZ).1.h.at hx
       exact hs1
      have HSK : Hid ((∀ q ∈ x.S,q.k < 256) ∧ ∀ q ∈ x.S,∃ y,fst y0.C q.k = some y ∧ chk q.k (f3 y.a y.b y.c) = 0 ∧ chk q.k (f3 q.a q.b q.c) = 0) := ⟨hco.ks,fun q hq => by
       have := hco.st q hq
       rw [show wasC (evs W) x.v.id = y0.C from hyc] at this
       exact this⟩
      have HY0 : Hid (y0 ∈ W ∧ y0.id = x.id) := ⟨List.mem_of_getElem? hym,hyi⟩
      have HCO : Hid (x.lost < 32 ∧ msk x.N < 32 ∧ msk x.S < 32) := ⟨hco.lost,hco.mn,hco.ms⟩
      have hid32 : x.id < 4294967296 := hco.id32
      have hlost : x.lost < 32 := hco.lost
      have hcpl := cpsB_le x.N
      obtain ⟨la,hlaE⟩ : ∃ la,la = lastI 0 (((d.H.map ChE.v).take k).map (·.id)) := ⟨_,rfl⟩
      rw [← hlaE] at HP HT2 hib
      rw [← hlaE]
      have HT3 : Hid ((L2 ++ var d.H.length) ++ chgsB (evs W) 0 ((d.H.map ChE.v).take (k + 1)) = ((L2 ++ var d.H.length) ++ chgsB (evs W) 0 ((d.H.map ChE.v).take k)) ++ chgB (evs W) la x.v) := by show _ = _; rw [HT2.out.2,List.append_assoc,List.append_assoc,List.append_assoc]
      have HT4 : Hid (lastI 0 (((d.H.map ChE.v).take (k + 1)).map (·.id)) = x.id) := HT2.out.1
      clear HT2
      clear hO hla hlaE htk hco hsz hcz hxe hmm hB hx he0 hym hyi hyc
      obtain ⟨xi,xl,xN,xna,xnc,xS,xsa,xsc⟩ := x
      simp only at c0 c1 c2 c3 HP HT3 HT4 HCB HMN HMS HMP HCP HSC HSK HY0 HCO hid32 hlost hib hcz2 hcpl
      obtain ⟨nl,hnl⟩ : ∃ nl,nl = xN.length := ⟨_,rfl⟩
      rw [← hnl] at c2 HP HMN HCP hcz2 hcpl
      obtain ⟨sl,hsl⟩ : ∃ sl,sl = xS.length := ⟨_,rfl⟩
      rw [← hsl] at c3 HP HMS hcz2
      have HSL : Hid (sl = xS.length) := hsl
      have hmN := HCO.out.2.1
      have hmS := HCO.out.2.2
      clear hnl hsl
      generalize msk xN = mN at *
      generalize msk xS = mS at *
      rw [hga]
      generalize (L2 ++ var d.H.length) ++ chgsB (evs W) 0 ((d.H.map ChE.v).take k) = M0 at *
      go_wp2_with fail
      refine HP.out.mono ?_
      rintro x w9 ⟨u9,rfl,h9⟩
      obtain ⟨bx,hbx⟩ : ∃ bx,bx = wr.heap.size := ⟨_,rfl⟩
      rw [← hbx] at h9
      rw [← hbx]
      have r0 := h9.two.cell 0
      have r1 := h9.two.cell 1
      simp at r0 r1
      have HM1 : Hid (Calls _ _ _ _ _) := HMP.out w9 _ _ _ xl h9 HCO.out.1 (by rw [List.length_append]; omega)
      clear h9 HP c0 c1 c2 c3 hb1 hb2 hbx
      go_wp2_with fail
      refine HM1.out.mono ?_
      rintro x w10 ⟨u10,rfl,h10⟩
      have r2 := h10.two.cell 2
      simp at r2
      have HM2 : Hid (Calls _ _ _ _ _) := HMN.out w10 [_,_] h10
      clear h10 HM1 r0 r1
      go_wp2_with fail
      refine HM2.out.mono ?_
      rintro x w11 ⟨rfl,h11⟩
      have HM3 : Hid (Calls _ _ _ _ _) := HMP.out w11 _ _ _ mN h11 HCO.out.2.1 (by simp only [List.length_append,length_bitsN]; omega)
      clear h11 HM2 r2
      go_wp2_with fail
      refine HM3.out.mono ?_
      rintro x w12 ⟨u12,rfl,h12⟩
      have r3 := h12.two.cell 3
      simp at r3
      have HM4 : Hid (Calls _ _ _ _ _) := HMS.out w12 [_,_] h12
      clear h12 HM3
      go_wp2_with fail
      refine HM4.out.mono ?_
      rintro x w13 ⟨rfl,h13⟩
      have HM5 : Hid (Calls _ _ _ _ _) := HMP.out w13 _ _ _ mS h13 HCO.out.2.2 (by simp only [List.length_append,length_bitsN]; omega)
      clear h13 HM4 r3
      go_wp2_with fail
      refine HM5.out.mono ?_
      rintro x w14 ⟨u14,rfl,h14⟩
      have r4 := h14.two.cell 2
      simp at r4
      have HM6 : Hid (Calls _ _ _ _ _) := HCP.out w14 _ _ _ h14 (by simp only [List.length_append,length_bitsN]; omega)
      clear h14 HM5
      go_wp2_with fail
      refine HM6.out.mono ?_
      rintro x w15 ⟨u15,rfl,h15⟩
      obtain ⟨M8,hM8⟩ : ∃ M,M = M0 ++ idB la xi ++ bitsN 5 xl ++ bitsN 5 mN ++ bitsN 5 mS ++ cpsB xN := ⟨_,rfl⟩
      rw [← hM8] at h15
      have HM8 : Hid (M8 = M0 ++ idB la xi ++ bitsN 5 xl ++ bitsN 5 mN ++ bitsN 5 mS ++ cpsB xN) := hM8
      have hl8 : M8.length ≤ 850000 := by
       rw [hM8]
       simp only [List.length_append,length_bitsN]
       omega
      have r3 := h15.two.cell 3
      simp at r3
      have H15 : Hid (Own w0 w15 _) := h15
      clear hM8 h15 HM6 r4 HMN HMS HMP HCP
      go_wp2
      clear r3
      go_loopw [9,133] (fun x9 cc wz => ∃ (j : Nat) (vj : Value),j ≤ sl ∧ cc = .int .i64 (j : Int) ∧ vj = x9 ∧ Own w0 wz (BT vj (M8 ++ stpsB y0.C (xS.take j)) :: Cells bx #[.int .u32 (xi : Int),.int .u8 (xl : Int),.slice xna nl xnc,.slice xsa sl xsc] 112 :: LB)) (fun _ cc _ => sl - (intOf cc).toNat)
      case atStart => exact ⟨0,_,Nat.zero_le _,rfl,rfl,by simpa [stpsB] using H15.out⟩
      case round =>
       obtain ⟨j,vj,hj,rfl,rfl,hO⟩ := hrel
       clear H15
       by_cases hjl : j < sl
       ·obtain ⟨q,hq⟩ : ∃ q,xS[j]? = some q := ⟨_,List.getElem?_eq_getElem (by rw [← HSL.out]; exact hjl)⟩
        obtain ⟨gq,oq,hgq,-,e0,e1,e2,e3⟩ := (HSC.out wr hO.tail.tail).at j q hq
        have hjl' : (j : Int) < (sl : Int) := by omega
        have hq8 := HSK.out.1 q (List.mem_of_getElem? hq)
        obtain ⟨y,hy,hy0,hq0⟩ := HSK.out.2 q (List.mem_of_getElem? hq)
        have hyk : y.k = q.k := (fst_some hy).2
        have hb1 : gq < wr.heap.size := World.block_lt_of_cell? wr _ e0
        have hb2 : wr.heap.size ≠ gq := by omega
        have hcl := stpsB_le y0.C (xS.take j)
        rw [List.length_take] at hcl
        have hstp := stpB_le y0.C q
        have hsp := stpB_pos hy hq0
        have hB := hO.allocC #[.int .u8 (q.k : Int),.int .i32 q.a,.int .i32 q.b,.int .i32 q.c] 63
        have u0 := hB.three.cell 0
        simp at u0
        have HFE : Hid (Calls _ _ _ _ _) := rfindE_any _ aw nw cw W ((HDA.out _ hB.tail.tail.tail).2.1) HQ.out.2.1 (by have h1 := HQ.out.2.2.2.2.2.1; have h2 := HQ.out.2.1; unfold esz at h1; omega) xi
        have HB : Hid (Own w0 _ _) := hB
        have HTK : Hid (M8 ++ stpsB y0.C (xS.take (j + 1)) = (M8 ++ stpsB y0.C (xS.take j)) ++ stpB y0.C q) := by
         show _ = _
         rw [List.take_add_one,hq,stpsB_app,List.append_assoc]; simp [stpsB]
        have hlj : (M8 ++ stpsB y0.C (xS.take j)).length ≤ 1000000 := by rw [List.length_append]; omega
        have HST : Hid (∀ Z X,Own w0 Z X → Calls Tryz.prog 81 #[.agg #[.int .u8 (y.k : Int),.int .i32 y.a,.int .i32 y.b,.int .i32 y.c],.agg #[.int .u8 (q.k : Int),.int .i32 q.a,.int .i32 q.b,.int .i32 q.c]] Z fun e w' => ∃ u,e = .returned (.tuple #[u,.int .i64 0]) ∧ Own w0 w' (BT u (stpB y0.C q) :: X)) := fun Z X hZ => by
         have e1 : stpB y0.C q = sbs q.k (f3 y.a y.b y.c) (f3 q.a q.b q.c) (cnt q.k) := by unfold stpB; rw [hy]
         rw [e1,hyk]
         exact rstepT w0 Z X hZ q.k hq8 (f3 y.a y.b y.c) (f3 q.a q.b q.c) hy0 hq0
        have HYF : Hid (fst y0.C q.k = some y) := hy
        have hq6 : q.k < 6 := (chk_ok _ _ hq0).1
        clear hO hB hcl hy hy0 hq0 hq hyk
        obtain ⟨qk,qa,qb,qc⟩ := q
        simp only at e0 e1 e2 e3 hq8 HTK HST HYF HB hstp hsp hq6
        generalize stpB y0.C ⟨qk,qa,qb,qc⟩ = S1 at *
        generalize M8 ++ stpsB y0.C (xS.take j) = Mj at *
        subst hgq
        go_wp2_with fail
        refine HFE.out.mono ?_
        rintro x w16 ⟨r,rfl,hfr,hf16⟩
        have h16 := HB.out.quiet hf16
        clear HB hf16 HFE u0 e0 e1 e2 e3 hb1 hb2
        obtain ⟨bq,hbq⟩ : ∃ bq,bq = wr.heap.size := ⟨_,rfl⟩
        rw [← hbq] at h16
        rw [← hbq]
        clear hbq
        rcases hfr with ⟨rfl,hno⟩ | ⟨m,yy,rfl,hyy,hyyi,-⟩
        ·exact absurd HY0.out.2 (hno y0 HY0.out.1)
        ·have hsW := Snap.of HD0.out.2.1
         have hyC : yy.C = y0.C := by
          have := en_one hsW.up (List.mem_map.2 ⟨yy,List.mem_of_getElem? hyy,rfl⟩) (List.mem_map.2 ⟨y0,HY0.out.1,rfl⟩) (hyyi.trans HY0.out.2.symm)
          exact congrArg Prod.snd this
         have hgd := hsW.good (yy.id,yy.C) (List.mem_map.2 ⟨yy,List.mem_of_getElem? hyy,rfl⟩)
         have hyl : yy.C.length ≤ 400 := by have h1 := csz_mem (List.mem_of_getElem? hyy); have h2 := HQ.out.2.2.2.2.2.1; unfold esz at h2; omega
         obtain ⟨r5,hpl,HFI⟩ := rplace_fix yy.ao yy.C.length yy.cap yy.C rfl hgd.1 (fun q hq => by have := hgd.2 q hq; omega) (by omega) qk hq8
         have hpj : ∃ jj : Nat,r5 = (jj : Int) ∧ yy.C[jj]? = some y := by
          rcases hpl with ⟨_,hnone⟩ | ⟨jj,yq,rfl,hjj,hfst⟩
          ·rw [hyC,HYF.out] at hnone; cases hnone
          ·rw [hyC,HYF.out] at hfst; cases hfst
           exact ⟨jj,rfl,hjj⟩
         obtain ⟨jj,rfl,hjj⟩ := hpj
         have hjb : jj < yy.C.length := (List.getElem?_eq_some_iff.1 hjj).1
         have hmb : m < nw := by rw [← HQ.out.2.1]; exact (List.getElem?_eq_some_iff.1 hyy).1
         obtain ⟨ge,oe,hge,f0,f1,-⟩ := ((HDA.out w16 h16.tail.tail.tail).2.1).at hyy
         obtain ⟨gy,oy,hgy,-,-,-,-,-⟩ := (((HDA.out w16 h16.tail.tail.tail).2.1).2 yy (List.mem_of_getElem? hyy)).at jj y hjj
         have hm0 : ¬ ((m : Int) < 0) := by omega
         have hm1 : (m : Int) < (nw : Int) := by omega
         have hj0 : ¬ ((jj : Int) < 0) := by omega
         have hj1 : (jj : Int) < (yy.C.length : Int) := by omega
         have hb1 : ge < w16.heap.size := World.block_lt_of_cell? w16 _ f0
         have hb2 : w16.heap.size ≠ ge := by omega
         have hC := h16.allocC #[.int .u32 (yy.id : Int),.slice yy.ao yy.C.length yy.cap] 60
         have HS0 : Hid (∀ Z,Own w0 Z (Cells w16.heap.size #[.int .u32 (yy.id : Int),.slice yy.ao yy.C.length yy.cap] 60 :: Cells bq #[.int .u8 (qk : Int),.int .i32 qa,.int .i32 qb,.int .i32 qc] 63 :: BT vj Mj :: Cells bx #[.int .u32 (xi : Int),.int .u8 (xl : Int),.slice xna nl xnc,.slice (some ⟨gq,oq,none⟩) sl xsc] 112 :: LB) → Z.cell? ⟨w16.heap.size,1,none⟩ = some (.slice yy.ao yy.C.length yy.cap) ∧ (Z.cell? ⟨bq,0,none⟩ = some (.int .u8 (qk : Int)) ∧ Z.cell? ⟨bq,1,none⟩ = some (.int .i32 qa) ∧ Z.cell? ⟨bq,2,none⟩ = some (.int .i32 qb) ∧ Z.cell? ⟨bq,3,none⟩ = some (.int .i32 qc)) ∧ (Z.cell? ⟨gy,oy + jj * 4,none⟩ = some (.int .u8 (y.k : Int)) ∧ Z.cell? ⟨gy,oy + jj * 4 + 1,none⟩ = some (.int .i32 y.a) ∧ Z.cell? ⟨gy,oy + jj * 4 + 2,none⟩ = some (.int .i32 y.b) ∧ Z.cell? ⟨gy,oy + jj * 4 + 3,none⟩ = some (.int .i32 y.c))) := fun Z hZ => by
          have t1 := hZ.cell 1
          have s0 := hZ.two.cell 0
          have s1 := hZ.two.cell 1
          have s2 := hZ.two.cell 2
          have s3 := hZ.two.cell 3
          simp at t1 s0 s1 s2 s3
          obtain ⟨g',o',hg',-,y0c,y1c,y2c,y3c⟩ := (((HDA.out Z hZ.tail.tail.tail.tail).2.1).2 yy (List.mem_of_getElem? hyy)).at jj y hjj
          rw [hgy] at hg'
          cases hg'
          exact ⟨t1,⟨s0,s1,s2,s3⟩,y0c,y1c,y2c,y3c⟩
         have HFJ : Hid (∀ Z,Own w0 Z (Cells w16.heap.size #[.int .u32 (yy.id : Int),.slice yy.ao yy.C.length yy.cap] 60 :: Cells bq #[.int .u8 (qk : Int),.int .i32 qa,.int .i32 qb,.int .i32 qc] 63 :: BT vj Mj :: Cells bx #[.int .u32 (xi : Int),.int .u8 (xl : Int),.slice xna nl xnc,.slice (some ⟨gq,oq,none⟩) sl xsc] 112 :: LB) → Calls Tryz.prog 53 #[.slice yy.ao yy.C.length yy.cap,.int .u8 (qk : Int)] Z fun e w' => e = .returned (.int .i64 (jj : Int)) ∧ Own w0 w' (Cells w16.heap.size #[.int .u32 (yy.id : Int),.slice yy.ao yy.C.length yy.cap] 60 :: Cells bq #[.int .u8 (qk : Int),.int .i32 qa,.int .i32 qb,.int .i32 qc] 63 :: BT vj Mj :: Cells bx #[.int .u32 (xi : Int),.int .u8 (xl : Int),.slice xna nl xnc,.slice (some ⟨gq,oq,none⟩) sl xsc] 112 :: LB)) := fun Z hZ => by
          refine (HFI Z (((HDA.out Z hZ.tail.tail.tail.tail).2.1).2 yy (List.mem_of_getElem? hyy))).mono ?_
          rintro e w' ⟨rfl,hf⟩
          exact ⟨rfl,hZ.quiet hf⟩
         have HC : Hid (Own w0 _ _) := hC
         clear h16 hC HFI hpl hyy hyyi hyC hgd hsW hjj hjb hmb
         obtain ⟨yi,ya,yc,yC⟩ := yy
         simp only at f0 f1 hj1 HS0 HFJ HC hgy
         generalize yC.length = yl at *
         subst hge
         subst hgy
         go_wp2
         generalize hWg : w16.alloc (.cells #[.int .u32 (yi : Int),.slice (some ⟨gy,oy,none⟩) yl yc] 60) = W2 at *
         generalize w16.heap.size = be at *
         clear hWg f0 f1 hb1 hb2
         have O1 := HC.out.drew
         obtain ⟨t1,⟨s0,s1,s2,s3⟩,y0c,y1c,y2c,y3c⟩ := HS0.out _ HC.out
         clear HC
         go_region_held3 (fun w' => w'.cell? ⟨be,1,none⟩ = some (.slice (some ⟨gy,oy,none⟩) yl yc) ∧ w'.cell? ⟨bq,0,none⟩ = some (.int .u8 (qk : Int)) ∧ w'.cell? ⟨bq,1,none⟩ = some (.int .i32 qa) ∧ w'.cell? ⟨bq,2,none⟩ = some (.int .i32 qb) ∧ w'.cell? ⟨bq,3,none⟩ = some (.int .i32 qc) ∧ w'.cell? ⟨gy,oy + jj * 4,none⟩ = some (.int .u8 (y.k : Int)) ∧ w'.cell? ⟨gy,oy + jj * 4 + 1,none⟩ = some (.int .i32 y.a) ∧ w'.cell? ⟨gy,oy + jj * 4 + 2,none⟩ = some (.int .i32 y.b) ∧ w'.cell? ⟨gy,oy + jj * 4 + 3,none⟩ = some (.int .i32 y.c)) (go_keep)
          (first
            | (go_at_call 53; with_reducible refine (HFJ.out _ O1).mono ?_; rintro x w17 ⟨rfl,O17⟩
               obtain ⟨t1,⟨s0,s1,s2,s3⟩,y0c,y1c,y2c,y3c⟩ := HS0.out _ O17)
            | (go_at_call 81; with_reducible refine (HST.out _ _ O17).mono ?_; rintro x w18 ⟨u18,rfl,O18⟩
               obtain ⟨t1,⟨s0,s1,s2,s3⟩,y0c,y1c,y2c,y3c⟩ := HS0.out _ (Own.tail O18)))
         have H18 : Hid (Own w0 w18 (BT u18 S1 :: BT vj Mj :: _)) := (Own.four O18).two
         clear O1 O17 O18 HFJ HST HS0 t1 s0 s1 s2 s3 y0c y1c y2c y3c
         go_wp2_with (at_builtin; refine app_bits rfl _ _ rfl vj u18 Mj S1 H18.out hsp (by omega) rfl rfl ?_; intro v19 w19 h19; have H19 : Hid (Own w0 w19 (BT v19 (Mj ++ S1) :: Cells bx #[.int .u32 (xi : Int),.int .u8 (xl : Int),.slice xna nl xnc,.slice (some ⟨gq,oq,none⟩) sl xsc] 112 :: LB)) := h19.two.tail.two.tail; clear h19)
         go_roundw
         case rel => exact ⟨j + 1,_,by omega,by go_num,rfl,by rw [HTK.out]; exact H19.out⟩
         case measure => simp [intOf]; omega
       ·have hj2 : j = sl := by omega
        subst hj2
        have hlt2 : ¬ (j : Int) < (j : Int) := by omega
        have H4 : Hid (Own w0 wr (BT vj ((L2 ++ var d.H.length) ++ chgsB (evs W) 0 ((d.H.map ChE.v).take (k + 1))) :: LB)) := by
         show Own _ _ _
         have h20 := hO
         rw [List.take_of_length_le (by rw [← HSL.out]; exact Nat.le_refl _)] at h20
         have h21 := h20.two.tail
         rw [HT3.out,HCB.out]
         rw [HM8.out] at h21
         simp only [List.append_assoc] at h21 ⊢
         exact h21
        clear hO
        go_wp2
        go_roundw
        case rel => exact ⟨k + 1,_,by omega,by go_num,rfl,by rw [HT4.out],H4.out⟩
        case measure => simp [intOf]; omega
     ·have hk2 : k = d.H.length := by omega
      subst hk2
      have hlt' : ¬ (d.H.length : Int) < (d.H.length : Int) := by omega
      rw [List.take_of_length_le (by rw [List.length_map]; exact Nat.le_refl _)] at hO
      obtain ⟨M,hM⟩ : ∃ M,M = (L2 ++ var d.H.length) ++ chgsB (evs W) 0 (d.H.map ChE.v) := ⟨_,rfl⟩
      rw [← hM] at hO
      have HM : Hid (M = L0 ++ contB 2 (evs W) (evs N)) := by
       show _ = _
       unfold contB
       rw [if_neg (by decide),if_pos rfl,← HOK.out.2]
       have e1 : dltB (evs W) d.v = (var d.G.length ++ idsB 0 d.G) ++ ((var (evs d.M).length ++ entsB 0 (evs d.M)) ++ (var (d.H.map ChE.v).length ++ chgsB (evs W) 0 (d.H.map ChE.v))) := rfl
       rw [e1,evs_len,List.length_map,hM,HL2.out,HL1.out]
       simp only [List.append_assoc]
      have H4 : Hid (Own w0 wr (BT v9 M :: LB)) := hO
      have HL : Hid (Own w0 wr l) := (HDA.out wr hO.tail).2.2
      clear hO hM hlt
      have hmm := HCL.out (HCC.out.trans HD0.out.1)
      rw [← HM.out] at hmm
      have hml := hmm.1
      have hm0 := hmm.2
      clear hmm
      have HBY : Hid (Calls _ _ _ _ _) := rbytes_any wr v9 M H4.out.bs (by omega)
      clear H4
      go_wp2_with fail
      refine HBY.out.mono ?_
      rintro x wy ⟨vy,rfl,hr,hf,hk⟩
      have hnb : 0 < nb M.length := by unfold nb; omega
      have hnb2 : nb M.length ≤ 60000 := by unfold nb; omega
      obtain ⟨g,cap,hv,_⟩ := row_shape hr hnb
      subst hv
      by_cases hlg : nb M.length ≤ 4096
      ·have hin := In.of_row hr (by rw [pack_len]) (pack_byte M)
       have HSE : Hid (Calls _ _ _ _ _) := rseal_ok wy (some ⟨g,0,none⟩) cap (nb M.length) (pack M) hin hlg
       have H6 : Hid (Own w0 wy l) := HL.out.quiet hf
       clear hr hf hk HBY hin
       go_wp2_with fail
       refine HSE.out.mono ?_
       rintro x wx ⟨g6,cp6,rfl,hr6,hf6⟩
       have H7 : Hid (Own w0 wx (Row 5 1 (.slice (some ⟨g6,0,none⟩) (nb M.length + 4) cp6) (nb M.length + 4) (vrow (frm (pack M))) :: l)) := H6.out.new (Row 5 1 (.slice (some ⟨g6,0,none⟩) (nb M.length + 4) cp6) (nb M.length + 4) (vrow (frm (pack M)))) (fun j => (Value.slice (some ⟨g6,0,none⟩) (nb M.length + 4) cp6).ownBlock = some j) ⟨row_weak hr6,fun _ => Iff.rfl⟩ hf6 (fun j hj => (hr6.lt j hj).1)
       clear hr6 hf6 HSE H6
       go_wp2
       go_ret2
       refine ⟨_,0,frm (pack M),rfl,HSY.out _ (frm_byte _ (pack_byte M)) (HCC.out.trans HD0.out.1) (by rw [HM.out]) (by rw [length_frm,pack_len]; omega),?_⟩
       have e1 : (frm (pack M)).length = nb M.length + 4 := by rw [length_frm,pack_len]
       rw [e1]
       exact H7.out
      ·have HSE : Hid (Calls _ _ _ _ _) := rseal_long wy (some ⟨g,0,none⟩) cap (nb M.length) (by omega) (by unfold maxLen; omega)
       have H6 : Hid (Own w0 wy l) := HL.out.quiet hf
       clear hr hf hk HBY
       go_wp2_with fail
       refine HSE.out.mono ?_
       rintro x wx ⟨rfl,rfl⟩
       clear HSE
       go_wp2
       go_ret2
       exact ⟨_,3,[],rfl,HSR.out.2 (HCC.out.trans HD0.out.1) _ (by rw [HM.out]) hlg,H6.out.nilRow _ _⟩
 ·have z0 : (((dcode (evs W) (evs N) : Nat) : Int) != 0) = true := by simpa using hd0
  have HC0 : Hid (dcode (evs W) (evs N) ≠ 0) := hd0
  generalize dcode (evs W) (evs N) = fc at *
  clear hd0
  go_wp2_with fail
  refine HDF.out.mono ?_
  rintro x w3 ⟨d,rfl,-,h3⟩
  unfold DlE.vs
  have H5 : Hid (Own w0 _ l) := ((Own.dropA h3).tail.tail).alloc (.cells #[.slice d.ga d.G.length d.gc,.slice d.ma d.M.length d.mc,.slice d.ha d.H.length d.hc] 106)
  clear h3 HDF r0
  go_wp2
  go_ret2
  exact ⟨_,fc,[],rfl,(by have h9 := HSR.out.1 (by rw [HCC.out]; exact HC0.out); rw [HCC.out] at h9; exact h9),H5.out.nilRow _ _⟩
end Go.Proofs.YtgifeckbflkkpaaGreatDoor
