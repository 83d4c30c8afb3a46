/-
  The packet's reader: lists of changes.
-/
import Derived.Test.YtbencjopjdjepaaGreatDoorM40
import Derived.Test.YtbencjopjdjepaaGreatDoorM28
namespace Go.Proofs.YtbencjopjdjepaaGreatDoor
open Go.RowKit
set_option linter.unusedVariables false
set_option maxRecDepth 100000

theorem chgsB_app (W : List En) (a : Nat) (X Y : List Chg) : chgsB W a (X ++ Y) = chgsB W a X ++ chgsB W (lastI a (X.map (·.id))) Y := by
  induction X generalizing a with
  | nil => rfl
  | cons x t ih => simp [chgsB, lastI, ih x.id]
theorem chgsB_at {W : List En} {N : List Chg} {j : Nat} {x : Chg} (h : N[j]? = some x) : chgsB W 0 N = chgsB W 0 (N.take j) ++ (chgB W (lastI 0 ((N.take j).map (·.id))) x ++ chgsB W x.id (N.drop (j + 1))) := by
  have hj := (List.getElem?_eq_some_iff.1 h)
  have e : N = N.take j ++ (x :: N.drop (j + 1)) := by
    have h1 := List.drop_eq_getElem_cons hj.1
    rw [hj.2] at h1
    rw [← h1, List.take_append_drop]
  have e2 : chgsB W 0 N = chgsB W 0 (N.take j ++ (x :: N.drop (j + 1))) := by rw [← e]
  rw [e2, chgsB_app]
  rfl
/-- a change that can be read behind W -/
structure ChRd (W : List En) (c : Chg) : Prop where
  ok : ChOk W c
  ln : lst (-1) c.new = 0
  un : un c.new = false
  gs : Good c.set
  us : Go.Proofs.YtbencjopjdjepaaGreatDoor.un c.set = false
set_option maxHeartbeats 16000000 in
theorem rdchanges (w0 w : World) (ht : Tab w0) (l : List Thing) (b : Nat) (P : List Nat) (t : Nat) (aw : Option Addr) (nw cw : Nat) (W : List EnE) (X : List Chg) (R : List Bool) (h : Own w0 w (RdT b P t :: l)) (hQ : ∀ w', Own w0 w' l → EntsAt w' aw W) (hnw : W.length = nw) (hzW : esz W ≤ 100000) (hupW : (evs W).Pairwise (fun a b => a.1 < b.1)) (hup : (X.map (·.id)).Pairwise (· < ·)) (hok : ∀ c ∈ X, ChRd (evs W) c) (hn : X.length ≤ 10000) (hb : (bitsB P).drop t = var X.length ++ (chgsB (evs W) 0 X ++ R)) :
    Calls Tryz.prog 153 #[.agg #[.pointer (some ⟨b, 0, none⟩)], .slice aw nw cw] w fun e w' => ∃ ao cap, e = .returned (.slice ao X.length cap) ∧ ∃ H : List ChE, H.length = X.length ∧ H.map ChE.v = X ∧ Own w0 w' (RdT b P (t + (var X.length).length + (chgsB (evs W) 0 X).length) :: hrow1 H ao cap :: (hrows H ++ l)) := by
  obtain ⟨i0, hi, hz0, hz1, hz2⟩ := info3w Tryz.infoChg
  have h1 := h.allocC #[.pointer (some ⟨b, 0, none⟩)] 123
  have q0 := h1.cell 0
  simp at q0
  have hv := rdgetVar w0 _ _ b P t X.length _ h1.two (by omega) hb
  rw [← length_var] at hv
  have H1 : Hid (Calls _ _ _ _ _) := hv
  have hbn := drop_next hb rfl
  have HN : Hid ((X.map (·.id)).Pairwise (· < ·) ∧ (∀ c ∈ X, ChRd (evs W) c) ∧ (bitsB P).drop (t + (var X.length).length) = chgsB (evs W) 0 X ++ R) := ⟨hup, hok, hbn⟩
  have HW : Hid ((∀ w', Own w0 w' l → EntsAt w' aw W) ∧ W.length = nw ∧ esz W ≤ 100000 ∧ (evs W).Pairwise (fun a b => a.1 < b.1)) := ⟨hQ, hnw, hzW, hupW⟩
  have HTB : Hid (Tab w0) := ht
  clear h h1 hv hb hbn hup hok ht hQ hnw hzW hupW
  generalize t + (var X.length).length = tn at *
  go_enter Tryz.func153, Tryz.ntmps153
  go_wp2_with fail
  refine H1.out.mono ?_
  rintro e w1 ⟨rfl, h2⟩
  generalize w.heap.size = bx at *
  have H2 : Hid (Own w0 w1 (RdT b P tn :: Row 109 4 (.slice none 0 0) 0 [] :: (Cells bx #[.pointer (some ⟨b, 0, none⟩)] 123 :: l))) := (h2.nilRow _ _).two
  clear h2 H1 q0
  go_wp2
  go_loopw [5, 6, 12] (fun x5 v6 v12 wr => ∃ (j : Nat) (H : List ChE) (ao : Option Addr) (cap : Nat), j ≤ X.length ∧ v12 = .int .u64 (j : Int) ∧ v6 = .int .u32 ((lastI 0 ((X.take j).map (·.id)) : Nat) : Int) ∧ x5 = .slice ao j cap ∧ H.length = j ∧ H.map ChE.v = X.take j ∧ Own w0 wr (RdT b P (tn + (chgsB (evs W) 0 (X.take j)).length) :: Row 109 4 (.slice ao j cap) j (cat ChE.cs H) :: (hrows H ++ (Cells bx #[.pointer (some ⟨b, 0, none⟩)] 123 :: l)))) (fun _ _ v12 _ => X.length - (intOf v12).toNat)
  case atStart => exact ⟨0, [], none, 0, Nat.zero_le _, rfl, rfl, rfl, rfl, rfl, H2.out⟩
  case round =>
    obtain ⟨j, H, ao, cap, hj, rfl, rfl, rfl, hHl, hH, hO⟩ := hrel
    have HM : Hid (H.length = j ∧ H.map ChE.v = X.take j) := ⟨hHl, hH⟩
    clear H2 hHl hH
    by_cases hlt : j < X.length
    · obtain ⟨x, hx⟩ : ∃ x, X[j]? = some x := ⟨_, List.getElem?_eq_getElem hlt⟩
      have hlt' : (j : Int) < (X.length : Int) := by omega
      have hr := HN.out.2.1 x (List.mem_of_getElem? hx)
      have htk : X.take (j + 1) = X.take j ++ [x] := by rw [List.take_add_one, hx]; rfl
      have hla : lastI 0 ((X.take j).map (·.id)) < x.id := by
        have hP : ((X.take (j + 1)).map (·.id)).Pairwise (· < ·) := by rw [List.map_take]; exact HN.out.1.sublist (List.take_sublist _ _)
        rw [htk, List.map_append] at hP
        refine lastI_lt hP (fun y hy => ?_)
        have hy2 : y ∈ (X.take (j + 1)).map (·.id) := by rw [htk, List.map_append]; exact hy
        obtain ⟨z, hz, rfl⟩ := List.mem_map.1 hy2
        exact (HN.out.2.1 z (List.mem_of_mem_take hz)).ok.id0
      obtain ⟨e0, he0⟩ := hr.ok.there
      obtain ⟨m0, y0, hym, hyi, hyc⟩ := fstE_at he0
      obtain ⟨xi, xl, xN, xS⟩ := x
      simp only at hla hyi hyc
      have hd0 := drop_next (show (bitsB P).drop tn = chgsB (evs W) 0 (X.take j) ++ (idB (lastI 0 ((X.take j).map (·.id))) xi ++ (bitsN 5 xl ++ (bitsN 5 (msk xN) ++ (bitsN 5 (msk xS) ++ (cpsB xN ++ (stpsB y0.C xS ++ (chgsB (evs W) xi (X.drop (j + 1)) ++ R))))))) by rw [HN.out.2.2, chgsB_at hx]; unfold chgB; simp only; rw [hyc]; simp only [List.append_assoc]) rfl
      have hd1 := drop_next hd0 rfl
      have hd2 := drop_next hd1 (length_bitsN _ _)
      have hd3 := drop_next hd2 (length_bitsN _ _)
      have hd4 := drop_next hd3 (length_bitsN _ _)
      have hd5 := drop_next hd4 rfl
      have hid32 : xi < 4294967296 := hr.ok.id32
      have hlo : xl < 32 := hr.ok.lost
      have hbx : wr.cell? ⟨bx, 0, none⟩ = some (.pointer (some ⟨b, 0, none⟩)) := by
        have := (hO.tail.tail.dropA).cell 0
        simpa using this
      have HP : Hid (Calls _ _ _ _ _) := rdid w0 wr _ b P _ (lastI 0 ((X.take j).map (·.id))) xi _ hO hla hid32 hd0
      obtain ⟨LL, hLL⟩ : ∃ LL, LL = (Row 109 4 (.slice ao j cap) j (cat ChE.cs H) :: (hrows H ++ (Cells bx #[.pointer (some ⟨b, 0, none⟩)] 123 :: l)) : List Thing) := ⟨_, rfl⟩
      rw [← hLL] at HP
      have HLL : Hid (LL = (Row 109 4 (.slice ao j cap) j (cat ChE.cs H) :: (hrows H ++ (Cells bx #[.pointer (some ⟨b, 0, none⟩)] 123 :: l)) : List Thing)) := hLL
      have HBX : Hid (∀ Z Y, Own w0 Z (Y ++ LL) → Z.cell? ⟨bx, 0, none⟩ = some (.pointer (some ⟨b, 0, none⟩)) ∧ Own w0 Z l) := fun Z Y hZ => by
        rw [hLL] at hZ
        have h5 := hZ.dropA.tail.dropA
        have := h5.cell 0
        exact ⟨by simpa using this, h5.tail⟩
      obtain ⟨t1, ht1⟩ : ∃ t1, t1 = tn + (chgsB (evs W) 0 (X.take j)).length + (idB (lastI 0 ((X.take j).map (·.id))) xi).length := ⟨_, rfl⟩
      rw [← ht1] at HP hd1 hd2 hd3 hd4 hd5
      have HTK : Hid (tn + (chgsB (evs W) 0 (X.take (j + 1))).length = t1 + 5 + 5 + 5 + (cpsB xN).length + (stpsB y0.C xS).length ∧ lastI 0 ((X.take (j + 1)).map (·.id)) = xi) := by
        rw [htk, chgsB_app, List.map_append, ht1, List.length_append]
        refine ⟨?_, lastI_snoc _ _ _⟩
        simp only [chgsB, chgB, List.append_nil, List.length_append, length_bitsN]
        rw [hyc]
        omega
      have HC1 : Hid (∀ Z Y, Own w0 Z (RdT b P t1 :: Y) → Calls Tryz.prog 180 #[.agg #[.pointer (some ⟨b, 0, none⟩)]] Z fun e w' => e = .returned (.int .u8 (xl : Int)) ∧ Own w0 w' (RdT b P (t1 + 5) :: Y)) := fun Z Y hZ => rdmask w0 Z Y b P t1 xl _ hZ hlo hd1
      have HC2 : Hid (∀ Z Y, Own w0 Z (RdT b P (t1 + 5) :: Y) → Calls Tryz.prog 180 #[.agg #[.pointer (some ⟨b, 0, none⟩)]] Z fun e w' => e = .returned (.int .u8 ((msk xN : Nat) : Int)) ∧ Own w0 w' (RdT b P (t1 + 5 + 5) :: Y)) := fun Z Y hZ => rdmask w0 Z Y b P (t1 + 5) (msk xN) _ hZ hr.ok.mn hd2
      have HC3 : Hid (∀ Z Y, Own w0 Z (RdT b P (t1 + 5 + 5) :: Y) → Calls Tryz.prog 180 #[.agg #[.pointer (some ⟨b, 0, none⟩)]] Z fun e w' => e = .returned (.int .u8 ((msk xS : Nat) : Int)) ∧ Own w0 w' (RdT b P (t1 + 5 + 5 + 5) :: Y)) := fun Z Y hZ => rdmask w0 Z Y b P (t1 + 5 + 5) (msk xS) _ hZ hr.ok.ms hd3
      have HC4 : Hid (∀ Z Y, Own w0 Z (RdT b P (t1 + 5 + 5 + 5) :: Y) → Calls Tryz.prog 179 #[.agg #[.pointer (some ⟨b, 0, none⟩)], .int .u8 ((msk xN : Nat) : Int)] Z fun e w' => ∃ ao cap, e = .returned (.slice ao xN.length cap) ∧ Own w0 w' (Row 68 4 (.slice ao xN.length cap) xN.length (ccat xN) :: RdT b P (t1 + 5 + 5 + 5 + (cpsB xN).length) :: Y)) := fun Z Y hZ => rdcomps w0 Z HTB.out Y b P (t1 + 5 + 5 + 5) xN _ hZ hr.ln hr.un hd4
      have HC5 : Hid (∀ Z Y, Own w0 Z (Y ++ LL) → Calls Tryz.prog 174 #[.slice aw nw cw, .int .u32 (xi : Int)] Z fun e w' => e = .returned (.slice y0.ao y0.C.length y0.cap) ∧ Own w0 w' (Y ++ LL)) := fun Z Y hZ => by
        have h1 := before_ok Z aw nw cw W (HW.out.1 Z (HBX.out Z Y hZ).2) HW.out.2.1 (by have h1 := HW.out.2.2.1; have h2 := HW.out.2.1; unfold esz at h1; omega) HW.out.2.2.2 m0 y0 hym
        rw [hyi] at h1
        refine h1.mono ?_
        rintro e w' ⟨rfl, hf⟩
        exact ⟨rfl, hZ.quiet hf⟩
      have HC6 : Hid (∀ Z Y, Own w0 Z (RdT b P (t1 + 5 + 5 + 5 + (cpsB xN).length) :: (Y ++ LL)) → Calls Tryz.prog 181 #[.agg #[.pointer (some ⟨b, 0, none⟩)], .slice y0.ao y0.C.length y0.cap, .int .u8 ((msk xS : Nat) : Int)] Z fun e w' => ∃ ao cap, e = .returned (.slice ao xS.length cap) ∧ Own w0 w' (Row 68 4 (.slice ao xS.length cap) xS.length (ccat xS) :: RdT b P (t1 + 5 + 5 + 5 + (cpsB xN).length + (stpsB y0.C xS).length) :: (Y ++ LL))) := fun Z Y hZ => rdsteps w0 Z HTB.out (Y ++ LL) b P _ y0.ao y0.C.length y0.cap y0.C xS _ hZ (fun w' hw => (HW.out.1 w' (HBX.out w' Y hw).2).2 y0 (List.mem_of_getElem? hym)) rfl (by have h1 := csz_mem (List.mem_of_getElem? hym); have h2 := HW.out.2.2.1; unfold esz at h2; omega) hr.gs hr.us (fun q hq => by
        have := hr.ok.st q hq
        simp only at this
        rw [hyc] at this
        exact this) hd5
      have HM2 : Hid (∀ na nc sa sc, (H ++ [ChE.mk xi xl xN na nc xS sa sc]).map ChE.v = X.take (j + 1)) := fun na nc sa sc => by
        rw [List.map_append, HM.out.2, htk]; rfl
      have hmN : msk xN < 32 := hr.ok.mn
      have hmS : msk xS < 32 := hr.ok.ms
      obtain ⟨la, hlaE⟩ : ∃ la, la = lastI 0 ((X.take j).map (·.id)) := ⟨_, rfl⟩
      rw [← hlaE] at HP
      rw [← hlaE]
      obtain ⟨nl, hnl⟩ : ∃ nl, nl = xN.length := ⟨_, rfl⟩
      rw [← hnl] at HC4
      obtain ⟨sl, hsl⟩ : ∃ sl, sl = xS.length := ⟨_, rfl⟩
      rw [← hsl] at HC6
      have HLN : Hid (xN.length = nl ∧ xS.length = sl) := ⟨hnl.symm, hsl.symm⟩
      clear hO hla hlaE htk hd0 hd1 hd2 hd3 hd4 hd5 hx hLL ht1 hr he0 hym hyi hyc hnl hsl
      generalize msk xN = mN at *
      generalize msk xS = mS at *
      generalize (cpsB xN).length = cN at *
      generalize (stpsB y0.C xS).length = cS at *
      obtain ⟨yi, ya, yc, yC⟩ := y0
      simp only at HC5 HC6
      generalize yC.length = yl at *
      go_wp2_with fail
      refine HP.out.mono ?_
      rintro e w2 ⟨rfl, h3⟩
      have h4 := (h3.allocC #[.int .u32 (xi : Int), .int .u8 0, .slice none 0 0, .slice none 0 0] 109).two
      have b2 := (HBX.out _ [_, _] h4).1
      have hb3 := (HBX.out _ [_] h3).1
      have hbl : bx < w2.heap.size := World.block_lt_of_cell? w2 _ hb3
      have hbn2 : w2.heap.size ≠ bx := by omega
      have HM1 : Hid (Calls _ _ _ _ _) := HC1.out _ _ h4
      clear h3 h4 HP hbx b2 HC1
      go_wp2_with fail
      refine HM1.out.mono ?_
      rintro e w3 ⟨rfl, h5⟩
      generalize w2.heap.size = bc at *
      clear hb3 hbl hbn2
      have z1 := h5.two.froz 1
      have y1 := h5.two.cell 1
      simp at y1
      have H6 : Hid (Own w0 (w3.setCell ⟨bc, 1, none⟩ (.int .u8 (xl : Int))) (Cells bc #[.int .u32 (xi : Int), .int .u8 (xl : Int), .slice none 0 0, .slice none 0 0] 109 :: RdT b P (t1 + 5) :: LL)) := h5.two.setC 1 (.int .u8 (xl : Int))
      clear h5 HM1
      go_wp2
      generalize w3.setCell ⟨bc, 1, none⟩ (.int .u8 (xl : Int)) = W4 at *
      clear z1 y1
      have b4 := (HBX.out W4 [_, _] H6.out).1
      have O1 := H6.out.two.drew
      clear H6
      go_region_held3 (fun w' => w'.cell? ⟨bx, 0, none⟩ = some (.pointer (some ⟨b, 0, none⟩))) (go_keep)
        (first
          | (go_at_call 180; with_reducible refine (HC2.out _ _ O1).mono ?_; rintro e w5 ⟨rfl, O5⟩
             have u5 := (HBX.out w5 [_, _] O5).1)
          | (go_at_call 180; with_reducible refine (HC3.out _ _ O5).mono ?_; rintro e w6 ⟨rfl, O6⟩
             have u6 := (HBX.out w6 [_, _] O6).1))
      have HM4 : Hid (Calls _ _ _ _ _) := HC4.out w6 _ O6
      clear O1 O5 O6 HC2 HC3 HC4 b4 u5
      go_wp2_with fail
      refine HM4.out.mono ?_
      rintro e w7 ⟨na, nc, rfl, h7⟩
      have z2 := h7.three.froz 2
      have y2 := h7.three.cell 2
      simp at y2
      have H8 : Hid (Own w0 (w7.setCell ⟨bc, 2, none⟩ (.slice na nl nc)) (Cells bc #[.int .u32 (xi : Int), .int .u8 (xl : Int), .slice na nl nc, .slice none 0 0] 109 :: Row 68 4 (.slice na nl nc) nl (ccat xN) :: RdT b P (t1 + 5 + 5 + 5 + cN) :: LL)) := h7.three.setC 2 (.slice na nl nc)
      clear h7 HM4 u6
      go_wp2
      generalize w7.setCell ⟨bc, 2, none⟩ (.slice na nl nc) = W8 at *
      clear z2 y2
      have b8 := (HBX.out W8 [_, _, _] H8.out).1
      have O1 := H8.out.three.drew
      clear H8
      go_region_held3 (fun w' => w'.cell? ⟨bx, 0, none⟩ = some (.pointer (some ⟨b, 0, none⟩))) (first | go_keep | assumption)
        (first
          | (go_at_call 174; with_reducible refine (HC5.out _ [_, _, _] O1).mono ?_; rintro e w9 ⟨rfl, O9⟩
             have u9 := (HBX.out w9 [_, _, _] O9).1)
          | (go_at_call 181; with_reducible refine (HC6.out _ [_, _] O9).mono ?_; rintro e w10 ⟨sa, sc, rfl, O10⟩
             have u10 := (HBX.out w10 [_, _, _, _] O10).1
             have z3 := (Own.three O10).froz 3
             have y3 := (Own.three O10).cell 3
             simp at y3
             have O11 := (Own.three O10).setC 3 (.slice sa sl sc)
             have K0 := (HBX.out _ [_, _, _, _] O11).1))
      have H11 : Hid (Own w0 (w10.setCell ⟨bc, 3, none⟩ (.slice sa sl sc)) (Cells bc #[.int .u32 (xi : Int), .int .u8 (xl : Int), .slice na nl nc, .slice sa sl sc] 109 :: Row 68 4 (.slice sa sl sc) sl (ccat xS) :: RdT b P (t1 + 5 + 5 + 5 + cN + cS) :: Row 68 4 (.slice na nl nc) nl (ccat xN) :: LL)) := O11
      clear O1 O9 O10 O11 K0 u9 u10 b8 z3 y3 HC5 HC6 HBX
      generalize w10.setCell ⟨bc, 3, none⟩ (.slice sa sl sc) = W11 at *
      have p0 := H11.out.cell 0
      have p1 := H11.out.cell 1
      have p2 := H11.out.cell 2
      have p3 := H11.out.cell 3
      simp at p0 p1 p2 p3
      have H12 : Hid (Own w0 W11 (Row 109 4 (.slice ao j cap) j (cat ChE.cs H) :: Cells bc #[.int .u32 (xi : Int), .int .u8 (xl : Int), .slice na nl nc, .slice sa sl sc] 109 :: Row 68 4 (.slice sa sl sc) sl (ccat xS) :: RdT b P (t1 + 5 + 5 + 5 + cN + cS) :: Row 68 4 (.slice na nl nc) nl (ccat xN) :: (hrows H ++ (Cells bx #[.pointer (some ⟨b, 0, none⟩)] 123 :: l)))) := by
        have := H11.out
        rw [HLL.out] at this
        exact Own.l4 this
      clear H11
      go_wp2_with (at_builtin; refine append1_own rfl _ _ 100 rfl 109 i0 _ 4 56 Tryz.underlying100 hi hz0 hz1 hz2 rfl (by decide) _ _ _ rfl H12.out _ #[.int .u32 (xi : Int), .int .u8 (xl : Int), .slice na nl nc, .slice sa sl sc] (by simp) rfl rfl (by intro u hu; simp at hu; rcases hu with rfl | rfl | rfl | rfl <;> rfl) (by unfold maxLen; omega) (by omega) ?_; intro g6 c6 w13 h13 _; have H13 : Hid (Own w0 w13 _) := h13; clear h13)
      have H14 : Hid (Own w0 w13 (RdT b P (tn + (chgsB (evs W) 0 (X.take (j + 1))).length) :: Row 109 4 (.slice (some ⟨g6, 0, none⟩) (j + 1) c6) (j + 1) (cat ChE.cs (H ++ [ChE.mk xi xl xN na nc xS sa sc])) :: (hrows (H ++ [ChE.mk xi xl xN na nc xS sa sc]) ++ (Cells bx #[.pointer (some ⟨b, 0, none⟩)] 123 :: l)))) := by
        have e1 : cat ChE.cs (H ++ [ChE.mk xi xl xN na nc xS sa sc]) = cat ChE.cs H ++ (#[.int .u32 (xi : Int), .int .u8 (xl : Int), .slice na nl nc, .slice sa sl sc]).toList := by
          rw [cat_append]
          congr 1
          simp [cat, ChE.cs, HLN.out.1, HLN.out.2]
        have e2 : hrows (H ++ [ChE.mk xi xl xN na nc xS sa sc]) ++ (Cells bx #[.pointer (some ⟨b, 0, none⟩)] 123 :: l) = hrows H ++ (Row 68 4 (.slice na nl nc) nl (ccat xN) :: Row 68 4 (.slice sa sl sc) sl (ccat xS) :: Cells bx #[.pointer (some ⟨b, 0, none⟩)] 123 :: l) := by
          simp [hrows, ChE.rows, ChE.nrow, ChE.srow, HLN.out.1, HLN.out.2]
        show Own _ _ _
        rw [e1, e2, HTK.out.1]
        have h15 := H13.out.two.tail
        have h16 := h15.three
        have h17 := h16.perm (((List.Perm.swap _ _ _).cons _).cons _)
        exact h17.perm (List.Perm.cons _ (List.Perm.cons _ ((List.perm_middle.symm.cons _).trans (List.perm_middle.symm.trans (by simp)))))
      clear H13 H12 p0 p1 p2 p3
      go_wp2
      go_roundw
      case rel => exact ⟨j + 1, _, _, _, by omega, by go_num, by rw [HTK.out.2], rfl, by rw [List.length_append, HM.out.1]; rfl, HM2.out na nc sa sc, H14.out⟩
      case measure => simp [intOf]; omega
    · have hj2 : j = X.length := by omega
      subst hj2
      have hlt' : ¬ (X.length : Int) < (X.length : Int) := by omega
      have HF : Hid (H.map ChE.v = X) := by
        have := HM.out.2
        rw [List.take_of_length_le (Nat.le_refl _)] at this
        exact this
      have HE : Hid (Own w0 wr (RdT b P (tn + (chgsB (evs W) 0 X).length) :: hrow1 H ao cap :: (hrows H ++ l))) := by
        have h1 := hO
        rw [List.take_of_length_le (Nat.le_refl _)] at h1
        unfold hrow1
        rw [HM.out.1]
        have h3 := (h1.perm ((List.perm_middle.cons _).cons _)).three.tail
        exact h3
      clear hO
      go_wp2
      go_ret
      exact ⟨ao, cap, rfl, H, HM.out.1, HF.out, HE.out⟩
end Go.Proofs.YtbencjopjdjepaaGreatDoor

