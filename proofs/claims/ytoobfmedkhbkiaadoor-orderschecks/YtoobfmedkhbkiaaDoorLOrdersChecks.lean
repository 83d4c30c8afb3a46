/-
  Of every order it is told whether it is right; a buffer takes just those that are, and gives them back as they were: OrdersChecks returns true, whatever its argument, where the table of the components lies as the program's text lays it, and changes nothing that was there.
-/
import Derived.Test.YtoobfmedkhbkiaaDoorQj
import Derived.OpenShut
import Derived.SevenTiedAt
namespace Go.Proofs.YtoobfmedkhbkiaaDoor
open Go.ChangeShapes Go.WideShapes Go.ChangeAt Go.RowKit
set_option linter.unusedVariables false
set_option maxRecDepth 100000

theorem Own.o4 {w0 w : World} {l : List Thing} {ao : Option Addr} {n cap : Nat} {L : List OrdE} (h : Own w0 w (Row 32 4 (.slice ao n cap) n (cat OrdE.cs L) :: l)) (hn : L.length = n) (j : Nat) (x : OrdE) (hx : L[j]? = some x) : ∃ g, ao = some ⟨g, 0, none⟩ ∧ O4 w g (j * 4) x := by
  have r := h.row
  have hj := (List.getElem?_eq_some_iff.1 hx).1
  obtain ⟨g, c, hv, _⟩ := row_shape r (by omega)
  have ha := (Value.slice.inj hv).1
  subst ha
  have e := fun i (hi : i < 4) => cat_at OrdE.cs 4 ord_len L j i x hx hi
  have k := fun i (hi : i < 4) => r.cellAt (j * 4 + i) (by omega)
  refine ⟨g, rfl, ?_, ?_, ?_, ?_⟩
  · have := k 0 (by decide); rw [e 0 (by decide)] at this; simpa [OrdE.cs] using this
  · have := k 1 (by decide); rw [e 1 (by decide)] at this; simpa [OrdE.cs] using this
  · have := k 2 (by decide); rw [e 2 (by decide)] at this; simpa [OrdE.cs] using this
  · have := k 3 (by decide); rw [e 3 (by decide)] at this; simpa [OrdE.cs] using this
/-- the right ones of the first j -/
def wl (Q : List OrdE) (j : Nat) : List OrdE := ((few Q).take j).filter (fun x => decide (x.ck = 0))
theorem wl_succ (Q : List OrdE) (j : Nat) (x : OrdE) (hx : (few Q)[j]? = some x) : wl Q (j + 1) = if x.ck = 0 then wl Q j ++ [x] else wl Q j := by
  unfold wl
  rw [List.take_add_one, hx, List.filter_append]
  by_cases h : x.ck = 0 <;> simp [h]
theorem wl_len (Q : List OrdE) (j : Nat) : (wl Q j).length ≤ 60 := Nat.le_trans (List.length_filter_le _ _) (Nat.le_trans (by rw [List.length_take]; exact Nat.min_le_right _ _) (few_len Q))
theorem wl_mem {Q : List OrdE} {j : Nat} {x : OrdE} (h : x ∈ wl Q j) : x ∈ few Q := List.mem_of_mem_take (List.mem_filter.1 h).1
theorem is_len {A B : List OrdE} (h : A.map OrdE.is = B.map OrdE.is) : A.length = B.length := by have := congrArg List.length h; simpa using this
theorem is_at {A B : List OrdE} (h : A.map OrdE.is = B.map OrdE.is) {j : Nat} {x : OrdE} (hx : B[j]? = some x) : ∃ y, A[j]? = some y ∧ y.is = x.is := by
  have := congrArg (fun l => l[j]?) h
  simp only [List.getElem?_map, hx, Option.map_some] at this
  cases hy : A[j]? with
  | none => rw [hy] at this; simp at this
  | some y => rw [hy] at this; simp at this; exact ⟨y, rfl, this⟩

set_option maxHeartbeats 8000000 in
theorem ordersChecks_fr (w : World) (ht : Tab w) (ao : Option Addr) (len cap : Nat) (Q : List OrdE) (hQl : Q.length = len) (hlc : len ≤ cap) (hcm : cap ≤ maxLen) (hOr : Ords w ao Q) (hw : ∀ o ∈ Q, o.d < 256 ∧ o.id < 4294967296 ∧ o.k < 256 ∧ IsComps w o.ao o.C.length o.cap o.C) :
    Calls Tryd.prog 3 #[.slice ao len cap] w fun e w' => e = .returned (.bool true) ∧ Fr Nobody w w' := by
  unfold maxLen at hcm
  obtain ⟨i0, hi0, hz0, hz1, hz2⟩ := info_parts Tryd.infoOrd
  have HT : Hid (Tab w) := ht
  obtain ⟨n, hn⟩ : ∃ n, n = (few Q).length := ⟨_, rfl⟩
  have hn60 : n ≤ 60 := by rw [hn]; exact few_len Q
  have HLI : Hid (∀ x ∈ few Q, Cs w x.ao x.C ∧ x.In ∧ x.C.length ≤ 20) := by
    intro x hx
    obtain ⟨o, ho, rfl⟩ := List.mem_map.1 hx
    have ho := List.mem_of_mem_take ho
    obtain ⟨h1, h2, h3, h4⟩ := hw o ho
    have hl : (o.C.take 20).length ≤ 20 := by rw [List.length_take]; exact Nat.min_le_left _ _
    exact ⟨(hOr.2 o ho).take 20, ⟨h1, h2, h3, fun q hq => h4.cs.2 q (List.mem_of_mem_take hq), Nat.le_trans hl (by decide)⟩, hl⟩
  have HFW : Hid (∀ w', Own w w' [] → Calls Tryd.prog 7 #[.slice ao len cap, .int .i64 60] w' fun e w'' => ∃ ra rc, e = .returned (.slice ra n rc) ∧ Own w w'' [Row 32 4 (.slice ra n rc) n (cat OrdE.cs (few Q))]) := by
    intro w' h'
    rw [hn]
    exact few_ok w w' [] h' ao len cap Q hQl (by omega) (fun w'' h'' => hOr.quiet h''.fr) (fun o ho => ⟨(hw o ho).2.2.2.2.1, (hw o ho).2.2.2.2.2.1⟩)
  have HTW : Hid (∀ w' b la lc, Own w w' [Buf b [], Row 32 4 (.slice la n lc) n (cat OrdE.cs (few Q))] → Calls Tryd.prog 9 #[.slice la n lc] w' fun e w'' => ∃ E ra rc, e = .returned (.slice ra n rc) ∧ E.map OrdE.is = (few Q).map OrdE.is ∧ E.length = n ∧ Own w w'' (Row 32 4 (.slice ra n rc) n (cat OrdE.cs E) :: (E.map orow ++ [Buf b [], Row 32 4 (.slice la n lc) n (cat OrdE.cs (few Q))]))) := fun w' b la lc h' => twins_ok w w' _ h' la n lc (few Q) hn.symm (by omega) (fun w'' h'' => Own.ords h''.two hn.symm (fun x hx => (HLI.out x hx).1.quiet h''.fr)) (fun x hx => Nat.le_trans (HLI.out x hx).2.2 (by decide))
  have HN : Hid (n = (few Q).length) := hn
  clear ht hOr hw hQl hn
  go_enter Tryd.func3, Tryd.ntmps3
  go_wp2_with fail
  refine (awake13 w w [] HT.out (Own.start _)).mono ?_
  rintro e w1 ⟨rfl, hO1⟩
  have H1 : Hid (Own w w1 []) := hO1
  clear hO1
  go_wp2_with fail
  refine (HFW.out _ H1.out).mono ?_
  rintro e w2 ⟨la, lc, rfl, hO2⟩
  have H2 : Hid (Own w w2 _) := hO2
  clear hO2 H1 HFW
  go_wp2_with fail
  refine (onew w w2 _ H2.out).mono ?_
  rintro e w3 ⟨b, rfl, hO3⟩
  have H3 : Hid (Own w w3 _) := hO3
  clear hO3 H2
  go_wp2_with fail
  refine (HTW.out _ _ _ _ H3.out).mono ?_
  rintro e w4 ⟨M, ma, mc, rfl, hM, hMl, hO4⟩
  have HM : Hid (M.map OrdE.is = (few Q).map OrdE.is ∧ M.length = n) := ⟨hM, hMl⟩
  have H4 : Hid (Own w w4 (Row 32 4 (.slice none 0 0) 0 [] :: Buf b [] :: Row 32 4 (.slice la n lc) n (cat OrdE.cs (few Q)) :: Row 32 4 (.slice ma n mc) n (cat OrdE.cs M) :: M.map orow)) := by
    refine (hO4.nilRow 32 4).perm (List.Perm.cons _ ?_)
    refine (List.Perm.cons _ List.perm_append_comm).trans ?_
    exact (List.perm_middle (l₁ := [Buf b [], Row 32 4 (.slice la n lc) n (cat OrdE.cs (few Q))]) (l₂ := M.map orow)).symm
  clear hO4 H3 HTW hM hMl
  go_wp2
  go_loopw [6, 22] (fun wv jv wr => ∃ (j : Nat) (E M' : List OrdE) (wa : Option Addr) (wc : Nat), j ≤ n ∧ jv = .int .i64 j ∧ wv = .slice wa (wl Q j).length wc ∧ E.map OrdE.is = (wl Q j).map OrdE.is ∧ M'.length = n ∧ (∀ i, j ≤ i → M'[i]? = M[i]?) ∧ Own w wr (Row 32 4 (.slice wa (wl Q j).length wc) (wl Q j).length (cat OrdE.cs (wl Q j)) :: Buf b E :: Row 32 4 (.slice la n lc) n (cat OrdE.cs (few Q)) :: Row 32 4 (.slice ma n mc) n (cat OrdE.cs M) :: M'.map orow)) (fun _ jv _ => n - (intOf jv).toNat)
  case atStart => exact ⟨0, [], M, none, 0, Nat.zero_le _, rfl, rfl, rfl, HM.out.2, fun _ _ => rfl, H4.out⟩
  case round =>
    obtain ⟨j, E, M', wa, wc, hj, rfl, rfl, hE, hM'l, hM'e, hO⟩ := hrel
    have HE : Hid (E.map OrdE.is = (wl Q j).map OrdE.is ∧ M'.length = n ∧ ∀ i, j ≤ i → M'[i]? = M[i]?) := ⟨hE, hM'l, hM'e⟩
    have hEl := is_len hE
    have hwl := wl_len Q j
    clear H4
    by_cases hlt : j < n
    · have hlt' : (j : Int) < (n : Int) := by omega
      obtain ⟨x, hx⟩ : ∃ x, (few Q)[j]? = some x := ⟨_, List.getElem?_eq_getElem (by rw [← HN.out]; exact hlt)⟩
      obtain ⟨y, hy, hyx⟩ := is_at HM.out.1 hx
      have hy' : M'[j]? = some y := by rw [hM'e j (Nat.le_refl _)]; exact hy
      obtain ⟨hxC, hxI, hx20⟩ := HLI.out x (List.mem_of_getElem? hx)
      have hws := wl_succ Q j x hx
      obtain ⟨d, id, k, C, xa, xc⟩ := x
      obtain ⟨d', id', k', C', ya, yc⟩ := y
      simp only [OrdE.is, Prod.mk.injEq] at hyx
      obtain ⟨rfl, rfl, rfl, rfl⟩ := hyx
      obtain ⟨R, hR⟩ : ∃ R, R = (M'.eraseIdx j).map orow := ⟨_, rfl⟩
      have hP : Own w wr (Row 38 4 (.slice ya C'.length yc) C'.length (ccat C') :: Row 32 4 (.slice wa (wl Q j).length wc) (wl Q j).length (cat OrdE.cs (wl Q j)) :: Buf b E :: Row 32 4 (.slice la n lc) n (cat OrdE.cs (few Q)) :: Row 32 4 (.slice ma n mc) n (cat OrdE.cs M) :: R) := by
        rw [hR]
        refine hO.perm ?_
        refine ((orow_pick M' j _ hy').append_left [Row 32 4 (.slice wa (wl Q j).length wc) (wl Q j).length (cat OrdE.cs (wl Q j)), Buf b E, Row 32 4 (.slice la n lc) n (cat OrdE.cs (few Q)), Row 32 4 (.slice ma n mc) n (cat OrdE.cs M)]).trans ?_
        exact List.perm_middle
      have HBK : Hid (∀ w' C2 L1 E2, C2.length = C'.length → Own w w' (Row 38 4 (.slice ya C'.length yc) C'.length (ccat C2) :: L1 :: Buf b E2 :: Row 32 4 (.slice la n lc) n (cat OrdE.cs (few Q)) :: Row 32 4 (.slice ma n mc) n (cat OrdE.cs M) :: R) → Own w w' (L1 :: Buf b E2 :: Row 32 4 (.slice la n lc) n (cat OrdE.cs (few Q)) :: Row 32 4 (.slice ma n mc) n (cat OrdE.cs M) :: (M'.set j ⟨d', id', k', C2, ya, yc⟩).map orow)) := by
        intro w' C2 L1 E2 h2 h'
        have e : orow ⟨d', id', k', C2, ya, yc⟩ = Row 38 4 (.slice ya C'.length yc) C'.length (ccat C2) := by unfold orow; rw [h2]
        refine h'.perm ?_
        rw [hR, ← e]
        refine List.Perm.symm ?_
        refine ((orow_back M' j ⟨d', id', k', C2, ya, yc⟩ (by omega)).append_left [L1, Buf b E2, Row 32 4 (.slice la n lc) n (cat OrdE.cs (few Q)), Row 32 4 (.slice ma n mc) n (cat OrdE.cs M)]).trans ?_
        exact List.perm_middle
      have HCL : Hid (C'.length = C'.length) := rfl
      have hyI : OrdE.In ⟨d', id', k', C', ya, yc⟩ := ⟨hxI.d, hxI.id, hxI.k, hxI.C, hxI.len⟩
      have hB := hP.allocC #[.int .u8 (d' : Int), .int .u32 (id' : Int), .int .u8 (k' : Int), .slice ya C'.length yc] 32
      obtain ⟨gm, hma, m0, m1, m2, m3⟩ := Own.o4 hP.tail.tail.tail.tail HM.out.2 j _ hy
      have HLO : Hid (∀ w' l', Own w w' (Row 32 4 (.slice la n lc) n (cat OrdE.cs (few Q)) :: l') → ∃ g, la = some ⟨g, 0, none⟩ ∧ O4 w' g (j * 4) ⟨d', id', k', C', xa, xc⟩) := fun w' l' h' => Own.o4 h' HN.out.symm j _ hx
      obtain ⟨gl0, hla, l0, l1, l2, l3⟩ := HLO.out _ _ hB.tail.tail.tail.tail
      have HRC : Hid (Calls _ _ _ _ _) := OrdE.rcheck ⟨d', id', k', C', xa, xc⟩ _ hxI (hxC.quiet hB.fr)
      have HCC : Hid (∀ w' l', Own w w' (Cells wr.heap.size #[.int .u8 (d' : Int), .int .u32 (id' : Int), .int .u8 (k' : Int), .slice ya C'.length yc] 32 :: Row 38 4 (.slice ya C'.length yc) C'.length (ccat C') :: l') → Calls Tryd.prog 11 #[.agg #[.int .u8 (d' : Int), .int .u32 (id' : Int), .int .u8 (k' : Int), .slice ya C'.length yc]] w' fun e w'' => e = .returned (.int .i64 ((ock d' k' C' : Nat) : Int)) ∧ Fr Nobody w' w'') := fun w' l' h' => OrdE.check ⟨d', id', k', C', ya, yc⟩ w' (HT.out.quiet h'.fr) hyI (Own.rcs h'.two rfl)
      have HPN : Hid (∀ w', Calls Tryd.prog 12 #[.pointer none, .agg #[.int .u8 (d' : Int), .int .u32 (id' : Int), .int .u8 (k' : Int), .slice ya C'.length yc]] w' fun e w'' => e = .returned (.int .i64 10) ∧ Fr Nobody w' w'') := fun w' => push_nil w' ⟨d', id', k', C', ya, yc⟩
      have HPO : Hid (ock d' k' C' = 0 → ∀ w' l', Own w w' (Buf b E :: Cells wr.heap.size #[.int .u8 (d' : Int), .int .u32 (id' : Int), .int .u8 (k' : Int), .slice ya C'.length yc] 32 :: Row 38 4 (.slice ya C'.length yc) C'.length (ccat C') :: l') → Calls Tryd.prog 12 #[.pointer (some ⟨b, 0, none⟩), .agg #[.int .u8 (d' : Int), .int .u32 (id' : Int), .int .u8 (k' : Int), .slice ya C'.length yc]] w' fun e w'' => e = .returned (.int .i64 0) ∧ ∃ a c, Own w w'' (Buf b (E ++ [OrdE.mk d' id' k' C' a c]) :: Cells wr.heap.size #[.int .u8 (d' : Int), .int .u32 (id' : Int), .int .u8 (k' : Int), .slice ya C'.length yc] 32 :: Row 38 4 (.slice ya C'.length yc) C'.length (ccat C') :: l')) := fun h0 w' l' h' => push_ok w w' _ b E HT.out h' ⟨d', id', k', C', ya, yc⟩ hyI (fun w'' h'' => Own.rcs h''.two rfl) h0 (by omega)
      have HPB : Hid (ock d' k' C' ≠ 0 → ∀ w' l', Own w w' (Cells wr.heap.size #[.int .u8 (d' : Int), .int .u32 (id' : Int), .int .u8 (k' : Int), .slice ya C'.length yc] 32 :: Row 38 4 (.slice ya C'.length yc) C'.length (ccat C') :: l') → Calls Tryd.prog 12 #[.pointer (some ⟨b, 0, none⟩), .agg #[.int .u8 (d' : Int), .int .u32 (id' : Int), .int .u8 (k' : Int), .slice ya C'.length yc]] w' fun e w'' => e = .returned (.int .i64 ((ock d' k' C' : Nat) : Int)) ∧ Own w w'' (Cells wr.heap.size #[.int .u8 (d' : Int), .int .u32 (id' : Int), .int .u8 (k' : Int), .slice ya C'.length yc] 32 :: Row 38 4 (.slice ya C'.length yc) C'.length (ccat C') :: l')) := fun h0 w' l' h' => push_bad w w' _ b HT.out h' ⟨d', id', k', C', ya, yc⟩ hyI (fun w'' h'' => Own.rcs h''.two rfl) h0
      change Hid (Calls _ _ #[.agg #[.int .u8 (d' : Int), .int .u32 (id' : Int), .int .u8 (k' : Int), .slice xa C'.length xc]] _ fun e w' => e = .returned (.int .i64 ((ock d' k' C' : Nat) : Int)) ∧ _) at HRC
      change wl Q (j + 1) = if ock d' k' C' = 0 then _ else _ at hws
      have HWS : Hid (wl Q (j + 1) = if ock d' k' C' = 0 then wl Q j ++ [OrdE.mk d' id' k' C' xa xc] else wl Q j) := hws
      have HB : Hid (Own w _ _) := hB
      subst hma hla
      obtain ⟨cl, hcl⟩ : ∃ cl, C'.length = cl := ⟨_, rfl⟩
      obtain ⟨ck, hck⟩ : ∃ ck, ock d' k' C' = ck := ⟨_, rfl⟩
      simp only [hcl] at HRC HCC HPN HPO HPB HB m3 l0 l1 l2 l3 HBK HCL
      simp only [hck] at HRC HCC HPO HPB HWS
      have HCL : Hid (C'.length = cl) := hcl
      have HEL : Hid (E.length = (wl Q j).length) := hEl
      have hcl20 : cl ≤ 20 := by rw [← hcl]; exact hx20
      have HSE : Hid (∀ C2 i, j + 1 ≤ i → (M'.set j ⟨d', id', k', C2, ya, yc⟩)[i]? = M[i]?) := by
        intro C2 i hi
        rw [List.getElem?_set_ne (by omega)]
        exact HE.out.2.2 i (by omega)
      clear hO hP hB hE hM'l hM'e hws hyI hxC hxI hx hy hy' hR hcl hck hEl
      by_cases h0 : ck = 0
      · subst h0
        have HWS2 : Hid (wl Q (j + 1) = wl Q j ++ [OrdE.mk d' id' k' C' xa xc]) := by have := HWS.out; rw [if_pos rfl] at this; exact this
        go_wp2_with fail
        refine HRC.out.mono ?_
        rintro e w2 ⟨rfl, hf⟩
        have hB2 := HB.out.quiet hf
        have b0 := hB2.cell 0
        have b1 := hB2.cell 1
        have b2 := hB2.cell 2
        have b3 := hB2.cell 3
        simp at b0 b1 b2 b3
        have H2 : Hid (Own w w2 _) := hB2
        have HC2 : Hid (Calls _ _ _ _ _) := HCC.out _ _ hB2
        clear hf hB2 HB HRC HCC m0 m1 m2 m3 l0 l1 l2 l3
        go_wp2_with fail
        refine HC2.out.mono ?_
        rintro e w3 ⟨rfl, hf⟩
        have hB3 := H2.out.quiet hf
        have d0 := hB3.cell 0
        have d1 := hB3.cell 1
        have d2 := hB3.cell 2
        have d3 := hB3.cell 3
        simp at d0 d1 d2 d3
        have HP3 : Hid (Calls _ _ _ _ _) := HPO.out trivial _ _ hB3.four
        clear hf hB3 H2 HC2 HPO HPB b0 b1 b2 b3
        go_wp2_with fail
        refine HP3.out.mono ?_
        rintro e w4 ⟨rfl, a4, c4, hO4⟩
        have hB4 := hO4.back4
        have f0 := hB4.cell 0
        have f1 := hB4.cell 1
        have f2 := hB4.cell 2
        have f3 := hB4.cell 3
        simp at f0 f1 f2 f3
        have H4 : Hid (Own w w4 _) := hB4
        clear hO4 hB4 HP3 d0 d1 d2 d3
        go_wp2_with fail
        refine (HPN.out _).mono ?_
        rintro e w5 ⟨rfl, hf⟩
        have hB5 := H4.out.quiet hf
        obtain ⟨g', hg', n0, n1, n2, n3⟩ := HLO.out _ _ hB5.tail.tail.tail.tail
        cases hg'
        simp only [HCL.out] at n3
        have H5 : Hid (Own w w5 _) := hB5.three
        clear hf hB5 H4 HPN f0 f1 f2 f3
        go_wp2_with (at_builtin; refine append1_own rfl _ _ 22 rfl 32 i0 (.agg #[.int .u8 0, .int .u32 0, .int .u8 0, .slice none 0 0]) 4 40 Tryd.underlying22 hi0 hz0 hz1 hz2 rfl (by decide) _ (wl Q j).length (cat OrdE.cs (wl Q j)) rfl H5.out _ #[.int .u8 (d' : Int), .int .u32 (id' : Int), .int .u8 (k' : Int), .slice xa cl xc] (by simp) rfl rfl (by intro u hu; simp at hu; rcases hu with rfl | rfl | rfl | rfl <;> rfl) (by unfold maxLen; omega) (by omega) ?_)
        intro g6 c6 w6 hO6 hsz6
        obtain ⟨wn1, hwn1⟩ : ∃ wn1, wn1 = (wl Q j).length + 1 := ⟨_, rfl⟩
        rw [← hwn1]
        rw [← hwn1] at hO6
        have H6 : Hid (Own w w6 (Cells wr.heap.size #[.int .u8 (d' : Int), .int .u32 (id' : Int), .int .u8 (k' : Int), .slice ya cl yc] 32 :: Row 38 4 (.slice ya cl yc) cl (ccat C') :: Row 32 4 (.slice (some ⟨g6, 0, none⟩) wn1 c6) wn1 (cat OrdE.cs (wl Q (j + 1))) :: Buf b (E ++ [OrdE.mk d' id' k' C' a4 c4]) :: Row 32 4 (.slice (some ⟨gl0, 0, none⟩) n lc) n (cat OrdE.cs (few Q)) :: Row 32 4 (.slice (some ⟨gm, 0, none⟩) n mc) n (cat OrdE.cs M) :: R)) := by
          have k := hO6.back3
          have e : cat OrdE.cs (wl Q (j + 1)) = cat OrdE.cs (wl Q j) ++ [.int .u8 (d' : Int), .int .u32 (id' : Int), .int .u8 (k' : Int), .slice xa cl xc] := by
            rw [HWS2.out, cat_append, cat_one]
            unfold OrdE.cs
            simp only [HCL.out]
          rw [← e] at k
          exact k
        have HWL : Hid ((wl Q (j + 1)).length = wn1) := by show _ = _; rw [HWS2.out, List.length_append, hwn1]; rfl
        have HE2 : Hid ((E ++ [OrdE.mk d' id' k' C' a4 c4]).map OrdE.is = (wl Q (j + 1)).map OrdE.is) := by
          show _ = _
          rw [HWS2.out, List.map_append, List.map_append, HE.out.1]; rfl
        have HE3 : Hid ((E ++ [OrdE.mk d' id' k' C' a4 c4]).length = wn1) := by show _ = _; rw [List.length_append, HEL.out, hwn1]; rfl
        have k6 := H6.out.cell 3
        simp at k6
        clear hO6 hsz6 H5 n0 n1 n2 n3 hwn1
        go_wp2
        go_loopw [61] (fun kv wr3 => ∃ q : Nat, q ≤ cl ∧ kv = .int .i64 q ∧ ∃ C2 : List Cp, C2.length = cl ∧ Own w wr3 (Cells wr.heap.size #[.int .u8 (d' : Int), .int .u32 (id' : Int), .int .u8 (k' : Int), .slice ya cl yc] 32 :: Row 38 4 (.slice ya cl yc) cl (ccat C2) :: Row 32 4 (.slice (some ⟨g6, 0, none⟩) wn1 c6) wn1 (cat OrdE.cs (wl Q (j + 1))) :: Buf b (E ++ [OrdE.mk d' id' k' C' a4 c4]) :: Row 32 4 (.slice (some ⟨gl0, 0, none⟩) n lc) n (cat OrdE.cs (few Q)) :: Row 32 4 (.slice (some ⟨gm, 0, none⟩) n mc) n (cat OrdE.cs M) :: R)) (fun kv _ => cl - (intOf kv).toNat)
        case atStart => exact ⟨0, Nat.zero_le _, rfl, C', HCL.out, H6.out⟩
        case round =>
          obtain ⟨q, hq, rfl, C2, hC2, hO8⟩ := hrel
          have H8 : Hid (Own w _ _) := hO8
          clear H6
          by_cases hqx : q < cl
          · have hqx' : (q : Int) < (cl : Int) := by omega
            obtain ⟨z, hz⟩ : ∃ z, C2[q]? = some z := ⟨_, List.getElem?_eq_getElem (by omega)⟩
            obtain ⟨gl, cl', hvl, _⟩ := row_shape hO8.two.row (by omega)
            have hgl := (Value.slice.inj hvl).1
            subst hgl
            have f1 := hO8.two.row.cellAt (q * 4 + 1) (by omega)
            rw [ccat_at1 C2 q z hz] at f1
            have f2 := hO8.two.row.frozenAt (q * 4 + 1)
            have k8 := hO8.cell 3
            simp at k8
            obtain ⟨nv, hnv⟩ : ∃ nv, nv = bits .xor .i32 z.a 1 := ⟨_, rfl⟩
            have HN8 : Hid (Own w (World.setCell _ ⟨gl, q * 4 + 1, none⟩ (.int .i32 nv)) _) := (hO8.two.setR (q * 4 + 1) (.int .i32 nv)).two
            rw [← ccat_set1 C2 q z nv hz] at HN8
            have HCL2 : Hid ((C2.set q ⟨z.k, nv, z.b, z.c⟩).length = cl) := by show _ = _; rw [List.length_set, hC2]
            clear hO8 hvl hz H8
            generalize z.a = za at *
            have hnv' := hnv.symm
            clear hnv
            go_wp2
            go_region
            all_goals
              go_wp2
              go_roundw
              case rel => exact ⟨q + 1, by omega, by go_num, _, HCL2.out, HN8.out.drew⟩
              case measure => simp [intOf]; omega
          · have hqx' : ¬ (q : Int) < (cl : Int) := by omega
            have HLN : Hid (Calls _ _ _ _ _) := olen w _ _ b (E ++ [OrdE.mk d' id' k' C' a4 c4]) hO8.four
            rw [HE3.out] at HLN
            have hne : ((wn1 : Int) != (wn1 : Int)) = false := by simp
            clear hO8
            go_wp2_with fail
            refine HLN.out.mono ?_
            rintro e w9 ⟨rfl, rfl⟩
            clear HLN
            go_wp2
            go_roundw
            case rel => exact ⟨j + 1, _, M'.set j ⟨d', id', k', C2, ya, yc⟩, _, _, by omega, by go_num, by rw [HWL.out], HE2.out, by rw [List.length_set]; exact HE.out.2.1, HSE.out C2, by rw [HWL.out]; exact HBK.out _ C2 _ _ hC2 H8.out.tail⟩
            case measure => simp [intOf]; omega
      · have hx0 : ¬ (ck : Int) = 0 := by omega
        have hee : ((ck : Int) != (ck : Int)) = false := by simp
        have HWS2 : Hid (wl Q (j + 1) = wl Q j) := by have := HWS.out; rw [if_neg h0] at this; exact this
        have HPB2 : Hid _ := HPB.out h0
        clear h0
        go_wp2_with fail
        refine HRC.out.mono ?_
        rintro e w2 ⟨rfl, hf⟩
        have hB2 := HB.out.quiet hf
        have b0 := hB2.cell 0
        have b1 := hB2.cell 1
        have b2 := hB2.cell 2
        have b3 := hB2.cell 3
        simp at b0 b1 b2 b3
        have H2 : Hid (Own w w2 _) := hB2
        have HC2 : Hid (Calls _ _ _ _ _) := HCC.out _ _ hB2
        clear hf hB2 HB HRC HCC m0 m1 m2 m3 l0 l1 l2 l3
        go_wp2_with fail
        refine HC2.out.mono ?_
        rintro e w3 ⟨rfl, hf⟩
        have hB3 := H2.out.quiet hf
        have d0 := hB3.cell 0
        have d1 := hB3.cell 1
        have d2 := hB3.cell 2
        have d3 := hB3.cell 3
        simp at d0 d1 d2 d3
        have HP3 : Hid (Calls _ _ _ _ _) := HPB2.out _ _ hB3
        clear hf hB3 H2 HC2 HPO HPB HPB2 b0 b1 b2 b3
        go_wp2_with fail
        refine HP3.out.mono ?_
        rintro e w4 ⟨rfl, hB4⟩
        have f0 := hB4.cell 0
        have f1 := hB4.cell 1
        have f2 := hB4.cell 2
        have f3 := hB4.cell 3
        simp at f0 f1 f2 f3
        have H4 : Hid (Own w w4 _) := hB4
        clear hB4 HP3 d0 d1 d2 d3
        go_wp2_with fail
        refine (HPN.out _).mono ?_
        rintro e w5 ⟨rfl, hf⟩
        have H6 : Hid (Own w w5 _) := H4.out.quiet hf
        have k6 := H6.out.cell 3
        simp at k6
        clear hf H4 HPN f0 f1 f2 f3
        go_wp2
        go_loopw [61] (fun kv wr3 => ∃ q : Nat, q ≤ cl ∧ kv = .int .i64 q ∧ ∃ C2 : List Cp, C2.length = cl ∧ Own w wr3 (Cells wr.heap.size #[.int .u8 (d' : Int), .int .u32 (id' : Int), .int .u8 (k' : Int), .slice ya cl yc] 32 :: Row 38 4 (.slice ya cl yc) cl (ccat C2) :: Row 32 4 (.slice wa (wl Q j).length wc) (wl Q j).length (cat OrdE.cs (wl Q j)) :: Buf b E :: Row 32 4 (.slice (some ⟨gl0, 0, none⟩) n lc) n (cat OrdE.cs (few Q)) :: Row 32 4 (.slice (some ⟨gm, 0, none⟩) n mc) n (cat OrdE.cs M) :: R)) (fun kv _ => cl - (intOf kv).toNat)
        case atStart => exact ⟨0, Nat.zero_le _, rfl, C', HCL.out, H6.out⟩
        case round =>
          obtain ⟨q, hq, rfl, C2, hC2, hO8⟩ := hrel
          have H8 : Hid (Own w _ _) := hO8
          clear H6
          by_cases hqx : q < cl
          · have hqx' : (q : Int) < (cl : Int) := by omega
            obtain ⟨z, hz⟩ : ∃ z, C2[q]? = some z := ⟨_, List.getElem?_eq_getElem (by omega)⟩
            obtain ⟨gl, cl', hvl, _⟩ := row_shape hO8.two.row (by omega)
            have hgl := (Value.slice.inj hvl).1
            subst hgl
            have f1 := hO8.two.row.cellAt (q * 4 + 1) (by omega)
            rw [ccat_at1 C2 q z hz] at f1
            have f2 := hO8.two.row.frozenAt (q * 4 + 1)
            have k8 := hO8.cell 3
            simp at k8
            obtain ⟨nv, hnv⟩ : ∃ nv, nv = bits .xor .i32 z.a 1 := ⟨_, rfl⟩
            have HN8 : Hid (Own w (World.setCell _ ⟨gl, q * 4 + 1, none⟩ (.int .i32 nv)) _) := (hO8.two.setR (q * 4 + 1) (.int .i32 nv)).two
            rw [← ccat_set1 C2 q z nv hz] at HN8
            have HCL2 : Hid ((C2.set q ⟨z.k, nv, z.b, z.c⟩).length = cl) := by show _ = _; rw [List.length_set, hC2]
            clear hO8 hvl hz H8
            generalize z.a = za at *
            have hnv' := hnv.symm
            clear hnv
            go_wp2
            go_region
            all_goals
              go_wp2
              go_roundw
              case rel => exact ⟨q + 1, by omega, by go_num, _, HCL2.out, HN8.out.drew⟩
              case measure => simp [intOf]; omega
          · have hqx' : ¬ (q : Int) < (cl : Int) := by omega
            have HLN : Hid (Calls _ _ _ _ _) := olen w _ _ b E hO8.four
            rw [HEL.out] at HLN
            have hne : (((wl Q j).length : Int) != ((wl Q j).length : Int)) = false := by simp
            clear hO8
            go_wp2_with fail
            refine HLN.out.mono ?_
            rintro e w9 ⟨rfl, rfl⟩
            clear HLN
            go_wp2
            go_roundw
            case rel => exact ⟨j + 1, E, M'.set j ⟨d', id', k', C2, ya, yc⟩, _, _, by omega, by go_num, by rw [HWS2.out], by rw [HWS2.out]; exact HE.out.1, by rw [List.length_set]; exact HE.out.2.1, HSE.out C2, by rw [HWS2.out]; exact HBK.out _ C2 _ _ hC2 H8.out.tail⟩
            case measure => simp [intOf]; omega
    · have hlt' : ¬ (j : Int) < (n : Int) := by omega
      have HTK : Hid (Calls _ _ _ _ _) := otake w wr _ b E hO.two
      rw [hEl] at HTK
      have HEL : Hid (E.length = (wl Q j).length) := hEl
      clear hO hE hM'l hM'e hEl
      go_wp2_with fail
      refine HTK.out.mono ?_
      rintro e w5 ⟨ga, gc, rfl, hO5⟩
      have hne : (((wl Q j).length : Int) != ((wl Q j).length : Int)) = false := by simp
      have HL5 : Hid (Calls _ _ _ _ _) := olen w w5 _ b [] hO5
      have HT5 : Hid (Calls _ _ _ _ _) := otake w w5 _ b [] hO5
      clear hO5 HTK
      go_wp2_with fail
      refine HL5.out.mono ?_
      rintro e w6 ⟨rfl, rfl⟩
      clear HL5
      go_wp2_with fail
      refine HT5.out.mono ?_
      rintro e w7 ⟨g7, c7, rfl, hO7⟩
      have H7 : Hid (Own w w7 (Row 32 4 (.slice ga (wl Q j).length gc) (wl Q j).length (cat OrdE.cs E) :: Row 32 4 (.slice wa (wl Q j).length wc) (wl Q j).length (cat OrdE.cs (wl Q j)) :: (E.map orow ++ (Row 32 4 (.slice la n lc) n (cat OrdE.cs (few Q)) :: Row 32 4 (.slice ma n mc) n (cat OrdE.cs M) :: M'.map orow)))) := by
        have k := hO7.tail.tail
        refine k.perm (List.Perm.cons _ ?_)
        exact List.perm_middle
      clear hO7 HT5
      go_wp2_with (first | (go_at_call 14; refine (otake_nil _).mono ?_; rintro e w8 ⟨rfl, rfl⟩) | (go_at_call 13; refine (olen_nil _).mono ?_; rintro e w8 ⟨rfl, rfl⟩))
      go_loopw [113] (fun iv wr3 => ∃ i : Nat, i ≤ (wl Q j).length ∧ iv = .int .i64 i ∧ Own w wr3 (Row 32 4 (.slice ga (wl Q j).length gc) (wl Q j).length (cat OrdE.cs E) :: Row 32 4 (.slice wa (wl Q j).length wc) (wl Q j).length (cat OrdE.cs (wl Q j)) :: (E.map orow ++ (Row 32 4 (.slice la n lc) n (cat OrdE.cs (few Q)) :: Row 32 4 (.slice ma n mc) n (cat OrdE.cs M) :: M'.map orow)))) (fun iv _ => (wl Q j).length - (intOf iv).toNat)
      case atStart => exact ⟨0, Nat.zero_le _, rfl, H7.out⟩
      case round =>
        obtain ⟨i, hi, rfl, hO8⟩ := hrel
        have H8 : Hid (Own w _ _) := hO8
        clear H7
        by_cases hil : i < (wl Q j).length
        · have hil' : (i : Int) < ((wl Q j).length : Int) := by omega
          obtain ⟨x, hx⟩ : ∃ x, (wl Q j)[i]? = some x := ⟨_, List.getElem?_eq_getElem hil⟩
          obtain ⟨y, hy, hyx⟩ := is_at HE.out.1 hx
          obtain ⟨hxC, hxI, hx20⟩ := HLI.out x (wl_mem (List.mem_of_getElem? hx))
          obtain ⟨gg, hga, m0, m1, m2, m3⟩ := Own.o4 hO8 HEL.out i y hy
          obtain ⟨gw, hwa, l0, l1, l2, l3⟩ := Own.o4 hO8.two rfl i x hx
          have hyC : Cs wr y.ao y.C := by
            have k := hO8.tail.tail
            have k2 := k.perm ((orow_pick E i y hy).append_right _)
            exact Own.rcs k2 rfl
          have hyl : y.C.length ≤ 1000000 := by
            have e : y.C = x.C := by simp only [OrdE.is, Prod.mk.injEq] at hyx; exact hyx.2.2.2
            rw [e]; omega
          have HSO : Hid (Calls _ _ _ _ _) := sameOrder_any wr.drew y x hyx (hyC.quiet (Fr.refl _ _).drew) (hxC.quiet hO8.fr.drew) hyl
          subst hga hwa
          obtain ⟨d, id, k, C, xa, xc⟩ := x
          obtain ⟨d', id', k', C', ya, yc⟩ := y
          unfold OrdE.ag at HSO
          simp only at m0 m1 m2 m3 l0 l1 l2 l3 HSO
          clear hO8 hx hy hyx hxC hxI hx20 hyC hyl
          go_wp2_with fail
          go_region_with (
            go_at_call 15
            refine HSO.out.mono ?_
            rintro e w9 ⟨rfl, hf⟩
            have H9 : Hid (Own w w9 _) := H8.out.drew.quiet hf
            clear hf)
          all_goals
            go_wp2
            go_roundw
            case rel => exact ⟨i + 1, by omega, by go_num, H9.out⟩
            case measure => simp [intOf]; omega
        · have hil' : ¬ (i : Int) < ((wl Q j).length : Int) := by omega
          clear hO8
          go_wp2
          go_ret
          exact ⟨rfl, H8.out.fr⟩
theorem ordersChecks_walk (w : World) (ht : Tab w) (a0 : Option Addr) (len0 cap0 : Nat) (z0 : List OrdE) (w0 : IsOrds w a0 len0 cap0 z0) :
    Calls Tryd.prog 3 #[.slice a0 len0 cap0] w fun e w' => e = .returned (.bool true) ∧ Below w.heap.size w w' := by
  obtain ⟨h1, h2⟩ := w0.ords
  refine (ordersChecks_fr w ht a0 len0 cap0 z0 w0.1 w0.2.1 w0.2.2.1 h1 h2).mono ?_
  rintro e w' ⟨rfl, hf⟩
  exact ⟨rfl, hf.below (Nat.le_refl _) (fun _ _ h => h)⟩
theorem laidOut : laidOutB Tryd.prog = true := by kernel_rfl

set_option maxRecDepth 100000 in
theorem ordersChecks_lifted (os : Os) (started : os.Started) (H : Type) (enc : TypeId × Value → H) :
    ReturnsInHanded {} Tryd.checked os 3 .any (fun w args => (Rows.ordersChecksSpec.pre enc Tryd.prog Tryd.f3 [] false w args ∧ laidMetH Tryd.prog laid1 w) ∧ sizedMet enc Tryd.prog Tryd.f3 (OpenSpec.ofChange Rows.ordersChecksSpec) false w args) (Rows.ordersChecksSpec.post enc Tryd.prog Tryd.f3 false true false false) := by
  refine returnsInHanded_of_change_and (C := Tryd.checked) (X := fun w _ => laidMetH Tryd.prog laid1 w) (fun _ _ _ hh h => h.of_heap hh) own started (by kernel_rfl) Tryd.func3
    (ChangeSpec.witness_shaped (enc := enc) (C := Tryd.checked) (os := os) (X := fun w _ => laidMetH Tryd.prog laid1 w) false (World.doorLaid Tryd.prog 400 os) #[.slice none 0 0] 8 rfl (World.shaped_of_RefB (by kernel_rfl) (by kernel_rfl)) (by kernel_rfl) (by kernel_rfl) (by kernel_rfl) (door_met os _)) ?_
  intro W base args ds gs before hval0 hW _ _ hL _
  have hval : ∀ (j : Nat) t v, Tryd.f3.params[j]? = some t → args[j]? = some v → Value.okWide Tryd.prog W .any base t v := hval0
  have hW' := hW
  obtain ⟨p, q, hA0, hV, rfl, hfz, hnd⟩ := hW
  have hA : DataW.TrodAll enc Tryd.prog W 0 (fun _ => true) true Tryd.f3.params.toList args.toList ds p := hA0
  rw [Tryd.params3] at hA hval
  obtain ⟨v0, vs0, d0, ds0, p0, q0, hargs, rfl, rfl, h0, r0⟩ := trodAll_cons hA
  obtain ⟨rfl, rfl, rfl⟩ := trodAll_nil r0
  obtain rfl : args = #[v0] := by cases args; simp_all
  obtain ⟨rfl, rfl⟩ := trodVars_none hV
  obtain ⟨a0, len0, cap0, rfl⟩ := okWide_slice Tryd.underlying22 (hval 0 22 v0 rfl rfl)
  have k0 := h0
  have lt0 : ∀ x ∈ p0, x.block < W.heap.size := by obtain ⟨m, hm⟩ := k0; exact DataW.trod_lt m _ _ _ hm
  obtain ⟨z0, w0⟩ := open_ops (hval 0 22 _ rfl rfl) h0
  clear hA0 hval0
  refine (ordersChecks_walk W (of_laid hL) a0 len0 cap0 z0 w0).mono fun e W' ⟨he, bel⟩ => ?_
  subst he
  exact ⟨_, rfl, _, _, _, [], _, [], hW', trodAll_mk1 (shut_bool Tryd.underlying4 _), (trodAll_cons_mk (Below.trod laidOut (by kernel_rfl) (of_decide_eq_true (by kernel_rfl)) k0 bel lt0) trodAll_mk0), rfl, bel.frame _, fun h => by cases h⟩

theorem ordersChecks_row : Rows.OrdersChecksSaid :=
  OpenClaim.holds_of_wide 3 Tryd.f3 rfl rfl rfl rfl rfl rfl rfl ⟨rfl, rfl, rfl, rfl, rfl⟩ rfl rfl rfl rfl rfl (by kernel_rfl) Tryd.func3 (by kernel_rfl)
    (of_decide_eq_true (by kernel_rfl)) (by unfold Func.isWrapper; first | (rw [if_pos (by decide +kernel)]; kernel_rfl) | (rw [if_neg (by decide +kernel)]; exact ⟨rfl, rfl⟩))
    (fun os started H enc _ => ordersChecks_lifted os started H enc)

theorem ordersChecks_holds : Rows.OrdersChecksCardSaid :=
  Claim7.holds_tied_plain_at .later [] [.data] true (true, "4723d8cf68faffe3bf4e039719e53f5780cf732191568c6d7ac14a548bb269ec") false
    ordersChecks_row (fun _ h => by cases h) (by kernel_rfl) (fun _ h => by cases h) ordersChecks_row_tie rfl ⟨rfl, rfl⟩ (by kernel_rfl) rfl
    (fun f fn hf hfn => by
      obtain rfl : f = 3 := Option.some.inj ((show Tryd.prog.funcNamed "pinnace/pinnacelaw13.OrdersChecks" = some 3 by kernel_rfl).symm.trans hf) |>.symm
      obtain rfl : fn = Tryd.f3 := (Option.some.inj (Tryd.func3.symm.trans hfn)).symm
      exact ⟨by kernel_rfl, fun j t ht => by
        rw [Tryd.params3] at ht
        have hm : t ∈ [22] := by simpa using Array.mem_of_getElem? ht
        have hall : ([22].all fun u => !Tryd.prog.wantsStandIn u) = true := by kernel_rfl
        exact (show Tryd.prog.wantsStandIn t = false by simpa using List.all_eq_true.1 hall t hm)⟩)
    (by kernel_rfl)

end Go.Proofs.YtoobfmedkhbkiaaDoor
