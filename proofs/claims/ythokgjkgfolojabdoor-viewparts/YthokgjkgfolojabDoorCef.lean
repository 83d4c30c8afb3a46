/-
  The grid: Put.
-/
import Derived.Test.YthokgjkgfolojabDoorCee
namespace Go.Proofs.YthokgjkgfolojabDoor
open Go.RowKit Go.Maps
set_option linter.unusedVariables false
set_option maxRecDepth 100000

/-- what Put tells -/
def putE (id : Nat) (x y : Int) : Int := if id = 0 then 1 else if inW x y then 0 else 5
set_option maxHeartbeats 4000000 in
theorem gputE (w0 w : World) (l : List Thing) (g K : Nat) (L : List Spt) (h : Own w0 w (Grid g L K :: l)) (ht : Tab w0) (id : Nat) (hid : id < 4294967296) (x y : Int) (hn : id = 0 ∨ inW x y = false) :
    Calls Tryd.prog 8 #[.pointer (some ⟨g, 0, none⟩), .int .u32 (id : Int), .int .i32 x, .int .i32 y] w fun e w' => e = .returned (.int .i64 (putE id x y)) ∧ Own w0 w' (Grid g L K :: l) := by
  rcases Nat.eq_zero_or_pos id with h0 | h0
  · subst h0
    have H : Hid (Own w0 w (Grid g L K :: l)) := h
    clear h
    go_enter Tryd.func8, Tryd.ntmps8
    go_wp2
    go_ret
    exact ⟨rfl, H.out⟩
  · have hb : inW x y = false := by rcases hn with e | e; omega; exact e
    have HC : Hid (Calls _ _ _ _ _) := check_pos w (ht.quiet h.fr) x y
    rw [hb] at HC
    have hid0 : ((id : Int) == 0) = false := by rw [beq_eq_false_iff_ne]; omega
    have H : Hid (Own w0 w (Grid g L K :: l)) := h
    have HE : Hid (putE id x y = 5) := by show _ = _; unfold putE; rw [if_neg (by omega), hb]; rfl
    clear h hn hb ht
    go_enter Tryd.func8, Tryd.ntmps8
    go_wp2_with fail
    refine HC.out.mono ?_
    rintro e w1 ⟨rfl, hf⟩
    have H1 : Hid (Own w0 w1 _) := H.out.quiet hf
    clear hf HC H
    go_wp2
    go_ret
    exact ⟨by rw [HE.out]; rfl, H1.out⟩
theorem crowds_up {M : List (Cll × Nat)} {L L' : List Spt} {K : Nat} (h : ∀ m ∈ M, crd L' m.1 = crd L m.1) : crowds M L K = crowds M L' K := (crowds_congr h).symm
theorem cel_ok {x y : Int} (h : inW x y = true) : COk (cel x, cel y) := by
  rw [inW_iff] at h
  have a := cel_lo (x := x) (by unfold I32; omega)
  have b := cel_lo (x := y) (by unfold I32; omega)
  unfold COk J64
  constructor <;> (simp only; omega)
theorem GOk.put {L : List Spt} (h : GOk L) (id : Nat) (x y : Int) (hid : id < 4294967296) (hw : inW x y = true) : GOk (putL L (id, x, y)) := by
  refine ⟨h.1.put _, fun s hs => ?_⟩
  rcases mem_put.1 hs with rfl | ⟨hs, _⟩
  · rw [inW_iff] at hw
    exact ⟨hid, by unfold I32; simp only; omega, by unfold I32; simp only; omega⟩
  · exact h.2 s hs
/-- what is left to do behind the crowd's turn -/
theorem put_home {w0 w : World} {l : List Thing} {g K b1 b2 : Nat} {M : List (Cll × Nat)} {L : List Spt} (hL : Rise L) (s : Spt) (hid : s.1 < 4294967296) (hn : hom L s.1 = none) (hK : L.length < K) (hK2 : K < maxLen) (nd : (M.map (·.1)).Nodup) (mem : ∀ c, c ∈ M.map (·.1) ↔ crd (putL L s) c ≠ [])
    (h : Own w0 w (Cells g #[.map (some b1), .map (some b2)] 51 :: GMap clK b1 K M.length (cmap M) :: GMap idK b2 K L.length (hmap L) :: (crowds M (putL L s) K ++ l))) :
    ∃ w', (Instr.mapUpdate 49 (.map (some b2)) (.int .u32 (s.1 : Int)) (cv (scl s))).run Tryd.prog w = .ok () w' ∧ Own w0 w' (Grid g (putL L s) K :: l) := by
  obtain ⟨w', hr, hO⟩ := Own.gmPut h.three Tryd.underlying49 s.1 (cv (scl s)) hid hK2
  refine ⟨w', hr, ?_⟩
  have e : (hmap L s.1).isSome = false := by unfold hmap; rw [hn]; rfl
  rw [e] at hO
  have hO2 := Own.gmTight (q := hmap (putL L s)) (K := K) hO (by simp only [Bool.false_eq_true, if_false]; omega) (fun y _ => by
    unfold hmap
    rw [hom_put hL]
    by_cases e : y = s.1 <;> simp [e])
  have e2 : (if false = true then L.length else L.length + 1) = (putL L s).length := by rw [len_put hL s hn]; rfl
  rw [e2] at hO2
  exact Grid.shut nd mem hO2.back3
theorem eqMap0 (w : World) : (binOp .eql 61 (.map none) (.map none)).run Tryd.prog w = .ok (.bool true) w := by kernel_rfl
theorem eqMap1 (w : World) (b : Nat) : (binOp .eql 61 (.map (some b)) (.map none)).run Tryd.prog w = .ok (.bool false) w := by rfl
theorem mkMap (w : World) : (Instr.makeMap 61 none).run Tryd.prog w = .ok (.map (some w.heap.size)) (w.alloc (.map #[] 0)) := by rfl
theorem Own.five {w0 w : World} {P Q R S T : Thing} {l : List Thing} (h : Own w0 w (P :: Q :: R :: S :: T :: l)) : Own w0 w (T :: P :: Q :: R :: S :: l) := h.perm (List.perm_middle (l₁ := [P, Q, R, S]) (a := T) (l₂ := l))
set_option maxHeartbeats 16000000 in
theorem gputC (w0 w : World) (l : List Thing) (g K : Nat) (L : List Spt) (h : Own w0 w (Grid g L K :: l)) (hL : GOk L) (ht : Tab w0) (id : Nat) (hid : id < 4294967296) (x y : Int) (hid0 : id ≠ 0) (hW : inW x y = true) (hK : L.length < K) (hK2 : K < maxLen) :
    Calls Tryd.prog 8 #[.pointer (some ⟨g, 0, none⟩), .int .u32 (id : Int), .int .i32 x, .int .i32 y] w fun e w' => e = .returned (.int .i64 0) ∧ Own w0 w' (Grid g (putL L (id, x, y)) K :: l) := by
  have HC : Hid (Calls _ _ _ _ _) := check_pos w (ht.quiet h.fr) x y
  rw [hW] at HC
  have hidb : ((id : Int) == 0) = false := by rw [beq_eq_false_iff_ne]; omega
  have hx32 : I32 x := by rw [inW_iff] at hW; unfold I32; omega
  have hy32 : I32 y := by rw [inW_iff] at hW; unfold I32; omega
  have HDR : Hid (∀ w', Own w0 w' (Grid g L K :: l) → Calls Tryd.prog 18 #[.pointer (some ⟨g, 0, none⟩), .int .u32 (id : Int)] w' fun e w'' => e = .returned (.int .i64 (if (hom L id).isSome then 0 else 7)) ∧ Own w0 w'' (Grid g (dropL L id) K :: l)) := fun w' h' => gdrop_any w0 w' l g K L h' hL id hid
  obtain ⟨L1, hL1⟩ : ∃ L1, L1 = dropL L id := ⟨_, rfl⟩
  rw [← hL1] at HDR
  have hOk1 : GOk L1 := by rw [hL1]; exact hL.drop id
  have hn1 : hom L1 id = none := by rw [hL1, hom_drop hL.1]; simp
  have hp1 : putL L (id, x, y) = putL L1 (id, x, y) := by rw [hL1]; exact (put_drop (L := L) (id, x, y)).symm
  have hK1 : L1.length < K := by rw [hL1]; exact Nat.lt_of_le_of_lt (List.length_filter_le _ _) hK
  rw [hp1]
  have hcok := cel_ok hW
  obtain ⟨cx, hcx⟩ : ∃ cx, cx = cel x := ⟨_, rfl⟩
  obtain ⟨cy, hcy⟩ : ∃ cy, cy = cel y := ⟨_, rfl⟩
  have HX : Hid (∀ W, Calls Tryd.prog 19 #[.int .i32 x] W fun e w' => e = .returned (.int .i64 cx) ∧ w' = W) := fun W => by rw [hcx]; exact of_ok W x hx32
  have HY : Hid (∀ W, Calls Tryd.prog 19 #[.int .i32 y] W fun e w' => e = .returned (.int .i64 cy) ∧ w' = W) := fun W => by rw [hcy]; exact of_ok W y hy32
  rw [← hcx, ← hcy] at hcok
  have hscl : scl (id, x, y) = (cx, cy) := by unfold scl; rw [hcx, hcy]
  generalize hsp : ((id, x, y) : Spt) = sp at *
  have hsp1 : sp.1 = id := by rw [← hsp]
  have H : Hid (Own w0 w (Grid g L K :: l)) := h
  obtain ⟨dr, hdr⟩ : ∃ dr : Int, dr = (if (hom L id).isSome then 0 else 7) := ⟨_, rfl⟩
  rw [← hdr] at HDR
  clear h hL1 hp1 hK hcx hcy hx32 hy32 hW ht hL hsp hdr
  have HP : Hid (GOk L1 ∧ hom L1 id = none ∧ L1.length < K ∧ COk (cx, cy) ∧ scl sp = (cx, cy) ∧ sp.1 = id ∧ id < 4294967296 ∧ K < maxLen) := ⟨hOk1, hn1, hK1, hcok, hscl, hsp1, hid, hK2⟩
  clear hOk1 hn1 hK1 hcok hscl hsp1 hid hK2 hid0
  go_enter Tryd.func8, Tryd.ntmps8
  go_wp2_with fail
  refine HC.out.mono ?_
  rintro e w1 ⟨rfl, hf⟩
  have H1 : Hid (Own w0 w1 _) := H.out.quiet hf
  clear hf HC H
  go_wp2_with fail
  refine (HDR.out w1 H1.out).mono ?_
  rintro e w2 ⟨rfl, hO2⟩
  clear HDR H1
  go_wp2_with fail
  refine (HX.out _).mono ?_
  rintro e w3 ⟨rfl, rfl⟩
  go_wp2_with fail
  refine (HY.out _).mono ?_
  rintro e w4 ⟨rfl, rfl⟩
  obtain ⟨b1, b2, M, nd, mem, hO3⟩ := Grid.open hO2
  obtain ⟨hOk, hn, hK, hcok, hscl, hsp1, hid, hK2⟩ := HP.out
  have hA := hO3.allocC #[.int .i64 cx, .int .i64 cy] 59
  have HA : Hid (Own w0 _ _) := hA
  clear HX HY hO2 hO3 hA hOk hn hK hcok hscl hsp1 hid hK2
  have HM : Hid ((M.map (·.1)).Nodup ∧ (∀ c, c ∈ M.map (·.1) ↔ crd L1 c ≠ [])) := ⟨nd, mem⟩
  clear nd mem
  go_wp2
  generalize hWg : w4.alloc (.cells #[.int .i64 cx, .int .i64 cy] 59) = W1 at *
  generalize w4.heap.size = B at *
  clear hWg
  obtain ⟨hOk, hn, hK, hcok, hscl, hsp1, hid, hK2⟩ := HP.out
  obtain ⟨nd, mem⟩ := HM.out
  have hA := HA.out
  have g1 := hA.two.cell 0
  have r0 := hA.cell 0
  have r1 := hA.cell 1
  simp at g1 r0 r1
  by_cases hcr : crd L1 (cx, cy) = []
  · have hcM : (cx, cy) ∉ M.map (·.1) := fun hq => (mem _).1 hq hcr
    have elk : cmap M (cx, cy) = none := by unfold cmap; rw [lkp_none hcM]; rfl
    have hlk : ∀ k, (Instr.lookup 48 (.map (some b1)) (.agg #[.int .i64 cx, .int .i64 cy]) false).run Tryd.prog (W1.drewN k) = .ok (.map none) (W1.drewN k) := fun k => by
      have q := (hA.three.drewN k).gmAt Tryd.underlying48 (zeroCrw _) (cx, cy) hcok
      rw [elk] at q
      exact q
    clear hA nd mem hOk hn hK hcok hscl hsp1 hid hK2 elk hcM
    have HCR : Hid (crd L1 (cx, cy) = []) := hcr
    clear hcr
    have heq := eqMap0
    go_quiet (fail)
    clear heq
    generalize hWg : W1.drewN nq = W2
    have hB := HA.out.drewN nq
    rw [hWg] at hB
    clear hWg hlk g1 r0 r1 HA
    have HB : Hid (Own w0 W2 _) := hB
    have g1 := hB.two.cell 0
    have r0 := hB.cell 0
    have r1 := hB.cell 1
    simp at g1 r0 r1
    have hgl := hB.two.lt
    have hBl := hB.lt
    obtain ⟨hOk, hn, hK, hcok, hscl, hsp1, hid, hK2⟩ := HP.out
    obtain ⟨nd, mem⟩ := HM.out
    have hcM : (cx, cy) ∉ M.map (·.1) := fun hq => (mem _).1 hq HCR.out
    have elk : cmap M (cx, cy) = none := by unfold cmap; rw [lkp_none hcM]; rfl
    have hN := hB.drew.gmNew idK
    have hML : M.length < K := Nat.lt_of_le_of_lt (M_len nd mem) hK
    obtain ⟨W3, hr3, hO3⟩ := Own.gmPut hN.four Tryd.underlying48 (cx, cy) (.map (some W2.heap.size)) hcok hK2
    have hr3' : (Instr.mapUpdate 48 (.map (some b1)) (.agg #[.int .i64 cx, .int .i64 cy]) (.map (some W2.heap.size))).run Tryd.prog (W2.alloc (.map #[] 0)).drew = .ok () W3 := hr3
    have hne1 : ¬ W2.heap.size = g := by omega
    have hne2 : ¬ W2.heap.size = B := by omega
    have nd' : ((M ++ [((cx, cy), W2.heap.size)]).map (·.1)).Nodup := by
      rw [List.map_append, List.nodup_append]
      refine ⟨nd, by simp, fun a ha b hb => ?_⟩
      simp at hb
      subst hb
      exact fun e => hcM (by rw [← e]; exact ha)
    rw [elk] at hO3
    have hO4 := Own.gmTight (q := cmap (M ++ [((cx, cy), W2.heap.size)])) (K := K) hO3 (by simp; omega) (fun y _ => by
      unfold cmap
      rw [lkp_at nd', List.append_nil]
      by_cases e : y = (cx, cy) <;> simp [e])
    have el : (if (none : Option Value).isSome = true then M.length else M.length + 1) = (M ++ [((cx, cy), W2.heap.size)]).length := by simp
    rw [el] at hO4
    -- the crowd, at W3.drew
    have elk2 : cmap (M ++ [((cx, cy), W2.heap.size)]) (cx, cy) = some (.map (some W2.heap.size)) := by unfold cmap; rw [lkp_at nd', if_pos rfl]; rfl
    have hlk4 : (Instr.lookup 48 (.map (some b1)) (.agg #[.int .i64 cx, .int .i64 cy]) false).run Tryd.prog W3.drew = .ok (.map (some W2.heap.size)) W3.drew := by
      have q := hO4.drew.gmAt Tryd.underlying48 (zeroCrw _) (cx, cy) hcok
      rw [elk2] at q
      exact q
    have g3 := hO4.four.cell 0
    have r30 := hO4.three.cell 0
    have r31 := hO4.three.cell 1
    simp at g3 r30 r31
    obtain ⟨W4, hr4, hO5⟩ := Own.gmPut hO4.drew.two Tryd.underlying61 id (.agg #[]) hid (by unfold maxLen; decide)
    have hr4' : (Instr.mapUpdate 61 (.map (some W2.heap.size)) (.int .u32 (id : Int)) (.agg #[])).run Tryd.prog W3.drew = .ok () W4 := hr4
    have hcl1 : (crd (putL L1 sp) (cx, cy)).length = 1 := by
      have := crd_put_len hOk.1 sp (by rw [hsp1]; exact hn)
      rw [hscl, HCR.out] at this
      simpa using this
    have hcm1 : ∀ y, y ∈ crd (putL L1 sp) (cx, cy) ↔ y = id := fun y => by
      have := crd_put_mem hOk.1 sp y
      rw [hscl, HCR.out, hsp1] at this
      rw [this]; simp
    have hO6 := Own.gmTight (q := fun y => if y ∈ crd (putL L1 sp) (cx, cy) then some (Value.agg #[]) else none) (K := K) hO5 (by simp; omega) (fun y _ => by
      by_cases e : y = id <;> simp [e, hcm1])
    have hO6' : Own w0 W4 (Crw W2.heap.size K (crd (putL L1 sp) (cx, cy)) :: GMap clK b1 K (M ++ [((cx, cy), W2.heap.size)]).length (cmap (M ++ [((cx, cy), W2.heap.size)])) :: Cells B #[.int .i64 cx, .int .i64 cy] 59 :: Cells g #[.map (some b1), .map (some b2)] 51 :: GMap idK b2 K L1.length (hmap L1) :: (crowds M L1 K ++ l)) := by
      unfold Crw
      rw [hcl1]
      exact hO6
    have g4 := hO6'.four.cell 1
    have r40 := hO6'.three.cell 0
    have r41 := hO6'.three.cell 1
    simp at g4 r40 r41
    have hother : ∀ m ∈ M, crd (putL L1 sp) m.1 = crd L1 m.1 := fun m hm => crd_put_other hOk.1 sp (by rw [hsp1]; exact hn) (by rw [hscl]; exact fun e => hcM (by rw [← e]; exact List.mem_map_of_mem hm))
    have hO7 : Own w0 W4 (Cells g #[.map (some b1), .map (some b2)] 51 :: GMap clK b1 K (M ++ [((cx, cy), W2.heap.size)]).length (cmap (M ++ [((cx, cy), W2.heap.size)])) :: GMap idK b2 K L1.length (hmap L1) :: (crowds (M ++ [((cx, cy), W2.heap.size)]) (putL L1 sp) K ++ l)) := by
      have e : crowds (M ++ [((cx, cy), W2.heap.size)]) (putL L1 sp) K = crowds M L1 K ++ [Crw W2.heap.size K (crd (putL L1 sp) (cx, cy))] := by
        rw [crowds_up (K := K) (M := M) (L := L1) (L' := putL L1 sp) hother]
        simp [crowds]
      rw [e, List.append_assoc]
      have h1 := Own.of4 (l := crowds M L1 K) (m := l) hO6'
      -- CM :: B :: g :: HM :: (crowds ++ Crw :: l)
      exact h1.two.tail.two
    have hmem' : ∀ c, c ∈ (M ++ [((cx, cy), W2.heap.size)]).map (·.1) ↔ crd (putL L1 sp) c ≠ [] := by
      intro c
      by_cases e : c = (cx, cy)
      · subst e
        simp only [List.map_append, List.map_cons, List.map_nil, List.mem_append, List.mem_singleton, or_true, true_iff]
        intro q
        rw [q] at hcl1
        cases hcl1
      · rw [crd_put_other hOk.1 sp (by rw [hsp1]; exact hn) (by rw [hscl]; exact e), ← mem c]
        simp [e]
    obtain ⟨W5, hr5, hO8⟩ := put_home hOk.1 sp (by rw [hsp1]; exact hid) (by rw [hsp1]; exact hn) hK hK2 nd' hmem' hO7.drew
    rw [hsp1, hscl] at hr5
    have hr5' : (Instr.mapUpdate 49 (.map (some b2)) (.int .u32 (id : Int)) (.agg #[.int .i64 cx, .int .i64 cy])).run Tryd.prog W4.drew = .ok () W5 := hr5
    have HF : Hid (Own w0 W5 (Grid g (putL L1 sp) K :: l)) := hO8
    clear hB hN hO3 hr3 hO4 hOk hn hK hcok hscl hsp1 hid hK2 nd mem hcM elk hML hO5 hO6 hO6' hO7 hO8 hr4 hr5 hmem' hother hcl1 hcm1 elk2 el nd'
    have hmk := mkMap W2.drew
    go_wp2
    go_region
    all_goals
      clear hr3' hmk g1 r0 r1
      go_wp2
      go_region
      all_goals
        clear hr4' hlk4 g3 r30 r31
        go_wp2
        go_region
        all_goals
          go_wp2
          go_ret
          exact ⟨rfl, HF.out⟩
  · obtain ⟨M1, bl, M2, rfl⟩ := split_at ((mem _).2 hcr)
    have elk : cmap (M1 ++ ((cx, cy), bl) :: M2) (cx, cy) = some (.map (some bl)) := by unfold cmap; rw [lkp_at nd, if_pos rfl]; rfl
    have hlk : ∀ k, (Instr.lookup 48 (.map (some b1)) (.agg #[.int .i64 cx, .int .i64 cy]) false).run Tryd.prog (W1.drewN k) = .ok (.map (some bl)) (W1.drewN k) := fun k => by
      have q := (hA.three.drewN k).gmAt Tryd.underlying48 (zeroCrw _) (cx, cy) hcok
      rw [elk] at q
      exact q
    clear hA nd mem hOk hn hK hcok hscl hsp1 hid hK2 elk
    have HCR : Hid (¬ crd L1 (cx, cy) = []) := hcr
    clear hcr
    have heq := fun w => eqMap1 w bl
    go_quiet (fail)
    clear heq
    generalize hWg : W1.drewN nq = W2
    have hB := HA.out.drewN nq
    rw [hWg] at hB
    clear hWg hlk g1 r0 r1 HA
    have g1 := hB.two.cell 0
    have r0 := hB.cell 0
    have r1 := hB.cell 1
    simp at g1 r0 r1
    obtain ⟨hOk, hn, hK, hcok, hscl, hsp1, hid, hK2⟩ := HP.out
    obtain ⟨nd, mem⟩ := HM.out
    have elk : cmap (M1 ++ ((cx, cy), bl) :: M2) (cx, cy) = some (.map (some bl)) := by unfold cmap; rw [lkp_at nd, if_pos rfl]; rfl
    have hlk4 : (Instr.lookup 48 (.map (some b1)) (.agg #[.int .i64 cx, .int .i64 cy]) false).run Tryd.prog W2.drew = .ok (.map (some bl)) W2.drew := by
      have q := hB.three.drew.gmAt Tryd.underlying48 (zeroCrw _) (cx, cy) hcok
      rw [elk] at q
      exact q
    have hcl1 : (crd (putL L1 sp) (cx, cy)).length = (crd L1 (cx, cy)).length + 1 := by
      have := crd_put_len hOk.1 sp (by rw [hsp1]; exact hn)
      rw [hscl] at this
      exact this
    have hcm1 : ∀ y, y ∈ crd (putL L1 sp) (cx, cy) ↔ y = id ∨ (y ≠ id ∧ y ∈ crd L1 (cx, cy)) := fun y => by
      have := crd_put_mem hOk.1 sp y
      rw [hscl, hsp1] at this
      exact this
    have hidn : id ∉ crd L1 (cx, cy) := fun hm => by rw [mem_crd_hom hOk.1, hn] at hm; cases hm
    have hcle : (crd L1 (cx, cy)).length ≤ L1.length := by unfold crd; rw [List.length_map]; exact List.length_filter_le _ _
    rw [crowds_at, List.append_assoc, List.cons_append] at hB
    have hB2 := Own.to4 hB.drew
    obtain ⟨W4, hr4, hO5⟩ := Own.gmPut hB2 Tryd.underlying61 id (.agg #[]) hid hK2
    have hr4' : (Instr.mapUpdate 61 (.map (some bl)) (.int .u32 (id : Int)) (.agg #[])).run Tryd.prog W2.drew = .ok () W4 := hr4
    have eis : (if id ∈ crd L1 (cx, cy) then some (Value.agg #[]) else none) = none := if_neg hidn
    rw [eis] at hO5
    have hO6 := Own.gmTight (q := fun y => if y ∈ crd (putL L1 sp) (cx, cy) then some (Value.agg #[]) else none) (K := K) hO5 (by simp; omega) (fun y _ => by
      by_cases e : y = id <;> simp [e, hcm1])
    have hO6' : Own w0 W4 (Crw bl K (crd (putL L1 sp) (cx, cy)) :: Cells B #[.int .i64 cx, .int .i64 cy] 59 :: Cells g #[.map (some b1), .map (some b2)] 51 :: GMap clK b1 K (M1 ++ ((cx, cy), bl) :: M2).length (cmap (M1 ++ ((cx, cy), bl) :: M2)) :: GMap idK b2 K L1.length (hmap L1) :: (crowds M1 L1 K ++ (crowds M2 L1 K ++ l))) := by
      unfold Crw
      rw [hcl1]
      exact hO6
    have g4 := hO6'.three.cell 1
    have r40 := hO6'.two.cell 0
    have r41 := hO6'.two.cell 1
    simp at g4 r40 r41
    have hnc : ∀ m ∈ M1 ++ M2, m.1 ≠ (cx, cy) := by
      intro m hm e
      have nd2 := nd
      rw [List.map_append, List.map_cons, List.nodup_append] at nd2
      obtain ⟨_, n2, n3⟩ := nd2
      rcases List.mem_append.1 hm with hm | hm
      · exact n3 m.1 (List.mem_map_of_mem hm) (cx, cy) (List.mem_cons_self ..) e
      · exact (List.nodup_cons.1 n2).1 (List.mem_map.2 ⟨m, hm, e⟩)
    have hother : ∀ m ∈ M1 ++ M2, crd (putL L1 sp) m.1 = crd L1 m.1 := fun m hm => crd_put_other hOk.1 sp (by rw [hsp1]; exact hn) (by rw [hscl]; exact hnc m hm)
    have hO7 : Own w0 W4 (Cells g #[.map (some b1), .map (some b2)] 51 :: GMap clK b1 K (M1 ++ ((cx, cy), bl) :: M2).length (cmap (M1 ++ ((cx, cy), bl) :: M2)) :: GMap idK b2 K L1.length (hmap L1) :: (crowds (M1 ++ ((cx, cy), bl) :: M2) (putL L1 sp) K ++ l)) := by
      rw [crowds_at, ← crowds_up (K := K) (M := M1) (L := L1) (L' := putL L1 sp) (fun m hm => hother m (List.mem_append_left _ hm)), ← crowds_up (K := K) (M := M2) (L := L1) (L' := putL L1 sp) (fun m hm => hother m (List.mem_append_right _ hm)), List.append_assoc, List.cons_append]
      exact (Own.of4 hO6').tail
    have hmem' : ∀ c, c ∈ (M1 ++ ((cx, cy), bl) :: M2).map (·.1) ↔ crd (putL L1 sp) c ≠ [] := by
      intro c
      by_cases e : c = (cx, cy)
      · subst e
        refine ⟨fun _ q => ?_, fun _ => by simp⟩
        rw [q] at hcl1
        simp at hcl1
      · rw [crd_put_other hOk.1 sp (by rw [hsp1]; exact hn) (by rw [hscl]; exact e)]
        exact mem c
    obtain ⟨W5, hr5, hO8⟩ := put_home hOk.1 sp (by rw [hsp1]; exact hid) (by rw [hsp1]; exact hn) hK hK2 nd hmem' hO7.drew
    rw [hsp1, hscl] at hr5
    have hr5' : (Instr.mapUpdate 49 (.map (some b2)) (.int .u32 (id : Int)) (.agg #[.int .i64 cx, .int .i64 cy])).run Tryd.prog W4.drew = .ok () W5 := hr5
    have HF : Hid (Own w0 W5 (Grid g (putL L1 sp) K :: l)) := hO8
    clear hB hB2 hOk hn hK hcok hscl hsp1 hid hK2 nd mem elk hO5 hO6 hO6' hO7 hO8 hr4 hr5 hmem' hother hcl1 hcm1 hnc eis hidn hcle
    go_wp2
    go_region
    all_goals
      clear hr4' hlk4 g1 r0 r1
      go_wp2
      go_region
      all_goals
        go_wp2
        go_ret
        exact ⟨rfl, HF.out⟩
theorem gput_any (w0 w : World) (l : List Thing) (g K : Nat) (L : List Spt) (h : Own w0 w (Grid g L K :: l)) (hL : GOk L) (ht : Tab w0) (id : Nat) (hid : id < 4294967296) (x y : Int) (hK : L.length < K) (hK2 : K < maxLen) :
    Calls Tryd.prog 8 #[.pointer (some ⟨g, 0, none⟩), .int .u32 (id : Int), .int .i32 x, .int .i32 y] w fun e w' => e = .returned (.int .i64 (putE id x y)) ∧ Own w0 w' (Grid g (if putE id x y = 0 then putL L (id, x, y) else L) K :: l) := by
  by_cases h0 : id = 0
  · have e : putE id x y = 1 := by unfold putE; rw [if_pos h0]
    have := gputE w0 w l g K L h ht id hid x y (.inl h0)
    rw [e] at this ⊢
    exact this
  · cases hw : inW x y with
    | false =>
      have e : putE id x y = 5 := by unfold putE; rw [if_neg h0, hw]; rfl
      have := gputE w0 w l g K L h ht id hid x y (.inr hw)
      rw [e] at this ⊢
      exact this
    | true =>
      have e : putE id x y = 0 := by unfold putE; rw [if_neg h0, hw]; rfl
      rw [e]
      exact gputC w0 w l g K L h hL ht id hid x y h0 hw hK hK2
end Go.Proofs.YthokgjkgfolojabDoor
