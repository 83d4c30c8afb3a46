/-
  The document's Sum over a list of entities.
-/
import Derived.Test.YtcpknpgeiafkoaaDoorIhg
import Derived.Test.YtcpknpgeiafkoaaDoorIng
namespace Go.Proofs.YtcpknpgeiafkoaaDoor
open Go.RowKit Go.Maps
set_option linter.unusedVariables false
set_option maxRecDepth 100000

/-- what one entity gives -/
def rone (k j : Nat) (u : REnt → Cp) (d : REnt) : Int := if hasK d.2.1 k then f3 (u d).a (u d).b (u d).c j else 0
theorem rone_le (k j : Nat) (u : REnt → Cp) : ∀ (L : List REnt), (∀ d ∈ L, hasK d.2.1 k = true → -524288 ≤ f3 (u d).a (u d).b (u d).c j ∧ f3 (u d).a (u d).b (u d).c j ≤ 524287) → -(524288 * (L.length : Int)) ≤ (L.map (rone k j u)).sum ∧ (L.map (rone k j u)).sum ≤ 524287 * (L.length : Int)
  | [], _ => by simp
  | d :: L, h => by
    have h1 : -524288 ≤ rone k j u d ∧ rone k j u d ≤ 524287 := by
      unfold rone
      split
      · rename_i hh; exact h d (by simp) hh
      · omega
    have h2 := rone_le k j u L (fun d' hd' => h d' (List.mem_cons_of_mem _ hd'))
    simp only [List.map_cons, List.sum_cons, List.length_cons]
    omega
set_option maxHeartbeats 8000000 in
theorem rsum12 (w0 w : World) (l : List Thing) (la : Option Addr) (nl lc : Nat) (D : List REnt) (h : Own w0 w (Row 51 2 (.slice la nl lc) nl (cat rcells D) :: l)) (hD : D.length = nl) (hn : nl ≤ 1024)
    (hCs : ∀ w', Own w0 w' (Row 51 2 (.slice la nl lc) nl (cat rcells D) :: l) → ∀ d ∈ D, Cs w' d.2.2.1 d.2.1) (hCk : ∀ d ∈ D, (∀ q ∈ d.2.1, q.k < 256) ∧ d.2.1.length ≤ 6 ∧ d.1 < 4294967296) (k j : Nat) (hj : j < cnt k) (u : REnt → Cp)
    (hV : ∀ d ∈ D, ∀ q ∈ d.2.1, q.k = k → q = u d) (hB : ∀ d ∈ D, hasK d.2.1 k = true → -524288 ≤ f3 (u d).a (u d).b (u d).c j ∧ f3 (u d).a (u d).b (u d).c j ≤ 524287) :
    Calls Tryd.prog 16 #[.slice la nl lc, .int .u8 (k : Int), .int .i64 (j : Int)] w fun e w' => e = .returned (.tuple #[.int .i64 (D.map (rone k j u)).sum, .int .i64 0]) ∧ Own w0 w' (Row 51 2 (.slice la nl lc) nl (cat rcells D) :: l) := by
  obtain ⟨j', ej, _, hk6, hj3⟩ := has_nat k j (by simp only [has, decide_eq_true_eq]; omega)
  obtain rfl : j = j' := by omega
  clear ej
  have H : Hid (Own w0 w _) := h
  have HD : Hid (D.length = nl) := hD
  have HCS : Hid _ := hCs
  have HCK : Hid _ := hCk
  have HV : Hid _ := hV
  have HRG : Hid (Calls _ _ _ _ _) := rrange_ok w k j hj
  obtain ⟨R, hR⟩ : ∃ R : Nat → Int, R = fun m => ((D.take m).map (rone k j u)).sum := ⟨_, rfl⟩
  have HR0 : Hid (R 0 = 0) := by show _ = _; rw [hR]; simp
  have HRS : Hid (∀ (m : Nat) (d : REnt), D[m]? = some d → R (m + 1) = R m + rone k j u d) := by
    intro m d hd
    rw [hR]
    simp only
    rw [List.take_add_one, hd]
    simp
  have HRL : Hid (∀ m, -536870912 ≤ R m ∧ R m ≤ 536870912) := by
    intro m
    rw [hR]
    have h1 := rone_le k j u (D.take m) (fun d hd => hB d (List.mem_of_mem_take hd))
    have h2 : (D.take m).length ≤ 1024 := by rw [List.length_take]; omega
    simp only
    omega
  have HB : Hid _ := hB
  have HRE : Hid (R nl = (D.map (rone k j u)).sum) := by
    show _ = _
    rw [hR]
    simp only
    rw [List.take_of_length_le (by rw [hD]; exact Nat.le_refl _)]
  rw [← HRE.out]
  clear h hD hCs hCk hR HRE hV hB hj
  generalize lo k j = lk at *
  generalize hi k j = hk at *
  have hj' : j = 0 ∨ j = 1 ∨ j = 2 := by omega
  rcases hj' with rfl | rfl | rfl
  · show Calls Tryd.prog 16 #[.slice la nl lc, .int .u8 (k : Int), .int .i64 0] w _
    go_enter Tryd.func16, Tryd.ntmps16
    go_wp2_with fail
    refine HRG.out.mono ?_
    rintro e w1 ⟨rfl, hf1⟩
    have H1 : Hid (Own w0 w1 _) := H.out.quiet hf1
    clear hf1 H HRG
    go_wp2
    go_loopw [11, 27] (fun v11 v27 wr => ∃ m : Nat, m ≤ nl ∧ v27 = .int .i64 m ∧ v11 = .int .i64 (R m) ∧ Own w0 wr (Row 51 2 (.slice la nl lc) nl (cat rcells D) :: l)) (fun _ v27 _ => nl - (intOf v27).toNat)
    case atStart => exact ⟨0, Nat.zero_le _, rfl, by rw [HR0.out], H1.out⟩
    case round =>
      obtain ⟨m, hm, rfl, rfl, hO⟩ := hrel
      have HO : Hid (Own w0 wr _) := hO
      clear H1 HR0
      by_cases hlt : m < nl
      · have hlt' : (m : Int) < (nl : Int) := by omega
        obtain ⟨d, hd⟩ : ∃ d, D[m]? = some d := ⟨_, List.getElem?_eq_getElem (by rw [HD.out]; exact hlt)⟩
        have hdm := List.mem_of_getElem? hd
        obtain ⟨g, cp, hv, _⟩ := row_shape hO.row (by omega)
        have hla := (Value.slice.inj hv).1
        subst hla
        have hO' := hO
        rw [← HD.out] at hO'
        obtain ⟨e0, e1⟩ := ecell hO' m d hd
        obtain ⟨hk, hl6, h32⟩ := HCK.out d hdm
        obtain ⟨hR1, hR2⟩ := HRL.out m
        have HST : Hid (R (m + 1) = R m + rone k 0 u d) := HRS.out m d hd
        have HCD : Hid (∀ w', Own w0 w' (Row 51 2 (.slice (some ⟨g, 0, none⟩) nl lc) nl (cat rcells D) :: l) → Cs w' d.2.2.1 d.2.1) := fun w' h' => HCS.out w' h' d hdm
        have HVD : Hid _ := HV.out d hdm
        have HBD : Hid _ := HB.out d hdm
        have hO5 := hO.allocC #[.int .u32 (d.1 : Int), .slice d.2.2.1 d.2.1.length d.2.2.2] 51
        have HFN : Hid (Calls _ _ _ _ _) := find_any _ d.2.2.1 d.2.1.length d.2.2.2 d.2.1 rfl (HCD.out _ hO5.tail) hk (by omega) k (by omega)
        have H5 : Hid (Own w0 _ _) := hO5
        unfold rone at HST
        clear hO hO' hd hv hO5 hdm
        obtain ⟨d1, C, da, dc⟩ := d
        simp only at e0 e1 hk hl6 h32 HST HCD HVD HBD H5 HFN
        generalize hcl : C.length = cl at *
        have HCL : Hid (C.length = cl) := hcl
        clear hcl
        generalize R m = rm at *
        go_wp2_with fail
        refine HFN.out.mono ?_
        rintro e w5 ⟨r2, rfl, hf2, hcase⟩
        have hO6 := H5.out.quiet hf2
        have x1 := hO6.cell 1
        simp at x1
        rcases hcase with ⟨rfl, hno⟩ | ⟨i, rfl, q, hq, hqk, hy⟩
        · have H6 : Hid (Own w0 w5 _) := hO6.tail
          rw [hno] at HST
          clear hf2 hO6 H5 HFN hno
          go_wp2
          go_roundw
          case rel => exact ⟨m + 1, by omega, by go_num, by rw [HST.out]; simp, H6.out⟩
          case measure => simp [intOf]; omega
        · have H6 : Hid (Own w0 w5 _) := hO6.tail
          rw [hy] at HST
          obtain ⟨hb1, hb2⟩ := HBD.out hy
          have hqu := HVD.out q (List.mem_of_getElem? hq) hqk
          rw [← hqu] at HST hb1 hb2
          have hil : i < cl := by rw [← HCL.out]; exact (List.getElem?_eq_some_iff.1 hq).1
          obtain ⟨gc, oc, hda, _, hat⟩ := (HCD.out _ hO6.tail).at i q hq
          subst hda
          obtain ⟨c0, c1, c2, c3⟩ := hat
          obtain ⟨yk, ya, yb, yc⟩ := q
          simp only [if_true] at HST hb1 hb2 c0 c1 c2 c3
          have hil' : (i : Int) < (cl : Int) := by omega
          clear hf2 hO6 H5 HFN hy hqu hqk hq HVD HBD HCD
          simp only [f3] at HST hb1 hb2
          go_wp2
          go_roundw
          case rel => exact ⟨m + 1, by omega, by go_num, by rw [HST.out], H6.out⟩
          case measure => simp [intOf]; omega
      · have hlt' : ¬ (m : Int) < (nl : Int) := by omega
        have hjn : m = nl := by omega
        subst hjn
        clear hO
        go_wp2
        go_ret2
        exact ⟨rfl, HO.out⟩
  · show Calls Tryd.prog 16 #[.slice la nl lc, .int .u8 (k : Int), .int .i64 1] w _
    go_enter Tryd.func16, Tryd.ntmps16
    go_wp2_with fail
    refine HRG.out.mono ?_
    rintro e w1 ⟨rfl, hf1⟩
    have H1 : Hid (Own w0 w1 _) := H.out.quiet hf1
    clear hf1 H HRG
    go_wp2
    go_loopw [11, 27] (fun v11 v27 wr => ∃ m : Nat, m ≤ nl ∧ v27 = .int .i64 m ∧ v11 = .int .i64 (R m) ∧ Own w0 wr (Row 51 2 (.slice la nl lc) nl (cat rcells D) :: l)) (fun _ v27 _ => nl - (intOf v27).toNat)
    case atStart => exact ⟨0, Nat.zero_le _, rfl, by rw [HR0.out], H1.out⟩
    case round =>
      obtain ⟨m, hm, rfl, rfl, hO⟩ := hrel
      have HO : Hid (Own w0 wr _) := hO
      clear H1 HR0
      by_cases hlt : m < nl
      · have hlt' : (m : Int) < (nl : Int) := by omega
        obtain ⟨d, hd⟩ : ∃ d, D[m]? = some d := ⟨_, List.getElem?_eq_getElem (by rw [HD.out]; exact hlt)⟩
        have hdm := List.mem_of_getElem? hd
        obtain ⟨g, cp, hv, _⟩ := row_shape hO.row (by omega)
        have hla := (Value.slice.inj hv).1
        subst hla
        have hO' := hO
        rw [← HD.out] at hO'
        obtain ⟨e0, e1⟩ := ecell hO' m d hd
        obtain ⟨hk, hl6, h32⟩ := HCK.out d hdm
        obtain ⟨hR1, hR2⟩ := HRL.out m
        have HST : Hid (R (m + 1) = R m + rone k 1 u d) := HRS.out m d hd
        have HCD : Hid (∀ w', Own w0 w' (Row 51 2 (.slice (some ⟨g, 0, none⟩) nl lc) nl (cat rcells D) :: l) → Cs w' d.2.2.1 d.2.1) := fun w' h' => HCS.out w' h' d hdm
        have HVD : Hid _ := HV.out d hdm
        have HBD : Hid _ := HB.out d hdm
        have hO5 := hO.allocC #[.int .u32 (d.1 : Int), .slice d.2.2.1 d.2.1.length d.2.2.2] 51
        have HFN : Hid (Calls _ _ _ _ _) := find_any _ d.2.2.1 d.2.1.length d.2.2.2 d.2.1 rfl (HCD.out _ hO5.tail) hk (by omega) k (by omega)
        have H5 : Hid (Own w0 _ _) := hO5
        unfold rone at HST
        clear hO hO' hd hv hO5 hdm
        obtain ⟨d1, C, da, dc⟩ := d
        simp only at e0 e1 hk hl6 h32 HST HCD HVD HBD H5 HFN
        generalize hcl : C.length = cl at *
        have HCL : Hid (C.length = cl) := hcl
        clear hcl
        generalize R m = rm at *
        go_wp2_with fail
        refine HFN.out.mono ?_
        rintro e w5 ⟨r2, rfl, hf2, hcase⟩
        have hO6 := H5.out.quiet hf2
        have x1 := hO6.cell 1
        simp at x1
        rcases hcase with ⟨rfl, hno⟩ | ⟨i, rfl, q, hq, hqk, hy⟩
        · have H6 : Hid (Own w0 w5 _) := hO6.tail
          rw [hno] at HST
          clear hf2 hO6 H5 HFN hno
          go_wp2
          go_roundw
          case rel => exact ⟨m + 1, by omega, by go_num, by rw [HST.out]; simp, H6.out⟩
          case measure => simp [intOf]; omega
        · have H6 : Hid (Own w0 w5 _) := hO6.tail
          rw [hy] at HST
          obtain ⟨hb1, hb2⟩ := HBD.out hy
          have hqu := HVD.out q (List.mem_of_getElem? hq) hqk
          rw [← hqu] at HST hb1 hb2
          have hil : i < cl := by rw [← HCL.out]; exact (List.getElem?_eq_some_iff.1 hq).1
          obtain ⟨gc, oc, hda, _, hat⟩ := (HCD.out _ hO6.tail).at i q hq
          subst hda
          obtain ⟨c0, c1, c2, c3⟩ := hat
          obtain ⟨yk, ya, yb, yc⟩ := q
          simp only [if_true] at HST hb1 hb2 c0 c1 c2 c3
          have hil' : (i : Int) < (cl : Int) := by omega
          clear hf2 hO6 H5 HFN hy hqu hqk hq HVD HBD HCD
          simp only [f3] at HST hb1 hb2
          go_wp2
          go_roundw
          case rel => exact ⟨m + 1, by omega, by go_num, by rw [HST.out], H6.out⟩
          case measure => simp [intOf]; omega
      · have hlt' : ¬ (m : Int) < (nl : Int) := by omega
        have hjn : m = nl := by omega
        subst hjn
        clear hO
        go_wp2
        go_ret2
        exact ⟨rfl, HO.out⟩
  · show Calls Tryd.prog 16 #[.slice la nl lc, .int .u8 (k : Int), .int .i64 2] w _
    go_enter Tryd.func16, Tryd.ntmps16
    go_wp2_with fail
    refine HRG.out.mono ?_
    rintro e w1 ⟨rfl, hf1⟩
    have H1 : Hid (Own w0 w1 _) := H.out.quiet hf1
    clear hf1 H HRG
    go_wp2
    go_loopw [11, 27] (fun v11 v27 wr => ∃ m : Nat, m ≤ nl ∧ v27 = .int .i64 m ∧ v11 = .int .i64 (R m) ∧ Own w0 wr (Row 51 2 (.slice la nl lc) nl (cat rcells D) :: l)) (fun _ v27 _ => nl - (intOf v27).toNat)
    case atStart => exact ⟨0, Nat.zero_le _, rfl, by rw [HR0.out], H1.out⟩
    case round =>
      obtain ⟨m, hm, rfl, rfl, hO⟩ := hrel
      have HO : Hid (Own w0 wr _) := hO
      clear H1 HR0
      by_cases hlt : m < nl
      · have hlt' : (m : Int) < (nl : Int) := by omega
        obtain ⟨d, hd⟩ : ∃ d, D[m]? = some d := ⟨_, List.getElem?_eq_getElem (by rw [HD.out]; exact hlt)⟩
        have hdm := List.mem_of_getElem? hd
        obtain ⟨g, cp, hv, _⟩ := row_shape hO.row (by omega)
        have hla := (Value.slice.inj hv).1
        subst hla
        have hO' := hO
        rw [← HD.out] at hO'
        obtain ⟨e0, e1⟩ := ecell hO' m d hd
        obtain ⟨hk, hl6, h32⟩ := HCK.out d hdm
        obtain ⟨hR1, hR2⟩ := HRL.out m
        have HST : Hid (R (m + 1) = R m + rone k 2 u d) := HRS.out m d hd
        have HCD : Hid (∀ w', Own w0 w' (Row 51 2 (.slice (some ⟨g, 0, none⟩) nl lc) nl (cat rcells D) :: l) → Cs w' d.2.2.1 d.2.1) := fun w' h' => HCS.out w' h' d hdm
        have HVD : Hid _ := HV.out d hdm
        have HBD : Hid _ := HB.out d hdm
        have hO5 := hO.allocC #[.int .u32 (d.1 : Int), .slice d.2.2.1 d.2.1.length d.2.2.2] 51
        have HFN : Hid (Calls _ _ _ _ _) := find_any _ d.2.2.1 d.2.1.length d.2.2.2 d.2.1 rfl (HCD.out _ hO5.tail) hk (by omega) k (by omega)
        have H5 : Hid (Own w0 _ _) := hO5
        unfold rone at HST
        clear hO hO' hd hv hO5 hdm
        obtain ⟨d1, C, da, dc⟩ := d
        simp only at e0 e1 hk hl6 h32 HST HCD HVD HBD H5 HFN
        generalize hcl : C.length = cl at *
        have HCL : Hid (C.length = cl) := hcl
        clear hcl
        generalize R m = rm at *
        go_wp2_with fail
        refine HFN.out.mono ?_
        rintro e w5 ⟨r2, rfl, hf2, hcase⟩
        have hO6 := H5.out.quiet hf2
        have x1 := hO6.cell 1
        simp at x1
        rcases hcase with ⟨rfl, hno⟩ | ⟨i, rfl, q, hq, hqk, hy⟩
        · have H6 : Hid (Own w0 w5 _) := hO6.tail
          rw [hno] at HST
          clear hf2 hO6 H5 HFN hno
          go_wp2
          go_roundw
          case rel => exact ⟨m + 1, by omega, by go_num, by rw [HST.out]; simp, H6.out⟩
          case measure => simp [intOf]; omega
        · have H6 : Hid (Own w0 w5 _) := hO6.tail
          rw [hy] at HST
          obtain ⟨hb1, hb2⟩ := HBD.out hy
          have hqu := HVD.out q (List.mem_of_getElem? hq) hqk
          rw [← hqu] at HST hb1 hb2
          have hil : i < cl := by rw [← HCL.out]; exact (List.getElem?_eq_some_iff.1 hq).1
          obtain ⟨gc, oc, hda, _, hat⟩ := (HCD.out _ hO6.tail).at i q hq
          subst hda
          obtain ⟨c0, c1, c2, c3⟩ := hat
          obtain ⟨yk, ya, yb, yc⟩ := q
          simp only [if_true] at HST hb1 hb2 c0 c1 c2 c3
          have hil' : (i : Int) < (cl : Int) := by omega
          clear hf2 hO6 H5 HFN hy hqu hqk hq HVD HBD HCD
          simp only [f3] at HST hb1 hb2
          go_wp2
          go_roundw
          case rel => exact ⟨m + 1, by omega, by go_num, by rw [HST.out], H6.out⟩
          case measure => simp [intOf]; omega
      · have hlt' : ¬ (m : Int) < (nl : Int) := by omega
        have hjn : m = nl := by omega
        subst hjn
        clear hO
        go_wp2
        go_ret2
        exact ⟨rfl, HO.out⟩
set_option maxHeartbeats 1000000 in
theorem rsum_no12 (w0 w : World) (l : List Thing) (v : Value) (h : Own w0 w l) (k : Nat) (hk : k < 256) (i : Int) (hi : has k i = false) :
    Calls Tryd.prog 16 #[v, .int .u8 (k : Int), .int .i64 i] w fun e w' => e = .returned (.tuple #[.int .i64 0, .int .i64 1]) ∧ Own w0 w' l := by
  have HRG : Hid (Calls _ _ _ _ _) := rrange_no w k hk i hi
  have H : Hid (Own w0 w l) := h
  clear h hi
  go_enter Tryd.func16, Tryd.ntmps16
  go_wp2_with fail
  refine HRG.out.mono ?_
  rintro e w1 ⟨rfl, hf1⟩
  have H1 : Hid (Own w0 w1 _) := H.out.quiet hf1
  clear H HRG hf1
  go_wp2
  go_ret2
  exact ⟨rfl, H1.out⟩
end Go.Proofs.YtcpknpgeiafkoaaDoor

/-
  The document's Nearest over a list of entities.
-/
namespace Go.Proofs.YtcpknpgeiafkoaaDoor
open Go.RowKit Go.Maps
set_option linter.unusedVariables false
set_option maxRecDepth 100000

/-- one entity more -/
def rnst (x y : Int) (u : REnt → Cp) (r : Option (Nat × Nat)) (d : REnt) : Option (Nat × Nat) := if hasK d.2.1 0 then nst x y r d.1 (u d) else r
theorem nst_new {x y : Int} {r : Option (Nat × Nat)} {i : Nat} {q : Cp} (h : r.isSome = false ∨ sqd q.a x + sqd q.b y < nm r) : nb (nst x y r i q) = i ∧ nm (nst x y r i q) = sqd q.a x + sqd q.b y ∧ (nst x y r i q).isSome = true := by
  cases r with
  | none => exact ⟨rfl, rfl, rfl⟩
  | some p =>
    obtain ⟨j, m⟩ := p
    rcases h with h | h
    · cases h
    · have hd' : sqd q.a x + sqd q.b y < m := h
      have e2 : nst x y (some (j, m)) i q = some (i, sqd q.a x + sqd q.b y) := if_pos hd'
      rw [e2]
      exact ⟨rfl, rfl, rfl⟩
theorem nst_old {x y : Int} {r : Option (Nat × Nat)} {i : Nat} {q : Cp} (h : r.isSome = true) (h2 : ¬ sqd q.a x + sqd q.b y < nm r) : nst x y r i q = r := by
  cases r with
  | none => cases h
  | some p =>
    obtain ⟨j, m⟩ := p
    have hd' : ¬ sqd q.a x + sqd q.b y < m := h2
    exact if_neg hd'
set_option maxHeartbeats 8000000 in
theorem rnear12 (w0 w : World) (l : List Thing) (la : Option Addr) (nl lc : Nat) (D : List REnt) (h : Own w0 w (Row 51 2 (.slice la nl lc) nl (cat rcells D) :: l)) (hD : D.length = nl) (hn : nl ≤ 1024)
    (hCs : ∀ w', Own w0 w' (Row 51 2 (.slice la nl lc) nl (cat rcells D) :: l) → ∀ d ∈ D, Cs w' d.2.2.1 d.2.1) (hCk : ∀ d ∈ D, (∀ q ∈ d.2.1, q.k < 256) ∧ d.2.1.length ≤ 6 ∧ d.1 < 4294967296) (x y : Int) (hx : -2147483648 ≤ x ∧ x ≤ 2147483647) (hy : -2147483648 ≤ y ∧ y ≤ 2147483647) (u : REnt → Cp)
    (hV : ∀ d ∈ D, ∀ q ∈ d.2.1, q.k = 0 → q = u d) (hB : ∀ d ∈ D, hasK d.2.1 0 = true → (-524288 ≤ (u d).a ∧ (u d).a ≤ 524287) ∧ -524288 ≤ (u d).b ∧ (u d).b ≤ 524287) :
    Calls Tryd.prog 18 #[.slice la nl lc, .int .i32 x, .int .i32 y] w fun e w' => e = .returned (.tuple #[.int .u32 ((nb (D.foldl (rnst x y u) none) : Nat) : Int), .bool (D.foldl (rnst x y u) none).isSome]) ∧ Own w0 w' (Row 51 2 (.slice la nl lc) nl (cat rcells D) :: l) := by
  have H : Hid (Own w0 w _) := h
  have HD : Hid (D.length = nl) := hD
  have HCS : Hid _ := hCs
  have HCK : Hid _ := hCk
  have HV : Hid _ := hV
  have HB : Hid _ := hB
  have HXY : Hid ((-2147483648 ≤ x ∧ x ≤ 2147483647) ∧ -2147483648 ≤ y ∧ y ≤ 2147483647) := ⟨hx, hy⟩
  obtain ⟨hx1, hx2⟩ := hx
  obtain ⟨hy1, hy2⟩ := hy
  obtain ⟨R, hR⟩ : ∃ R : Nat → Option (Nat × Nat), R = fun m => (D.take m).foldl (rnst x y u) none := ⟨_, rfl⟩
  have HR0 : Hid (R 0 = none) := by show _ = _; rw [hR]; simp
  have HRS : Hid (∀ (m : Nat) (d : REnt), D[m]? = some d → R (m + 1) = rnst x y u (R m) d) := by
    intro m d hd
    rw [hR]
    simp only
    rw [List.take_add_one, hd]
    simp
  have HRE : Hid (R nl = D.foldl (rnst x y u) none) := by
    show _ = _
    rw [hR]
    simp only
    rw [List.take_of_length_le (by rw [hD]; exact Nat.le_refl _)]
  rw [← HRE.out]
  clear h hD hCs hCk hR HRE hV hB
  go_enter Tryd.func18, Tryd.ntmps18
  go_wp2
  go_loopw [8, 9, 10, 19] (fun v8 v9 v10 v19 wr => ∃ m : Nat, m ≤ nl ∧ v19 = .int .i64 m ∧ v8 = .int .u32 ((nb (R m) : Nat) : Int) ∧ v9 = .int .u64 ((nm (R m) : Nat) : Int) ∧ v10 = .bool (R m).isSome ∧ Own w0 wr (Row 51 2 (.slice la nl lc) nl (cat rcells D) :: l)) (fun _ _ _ v19 _ => nl - (intOf v19).toNat)
  case atStart => exact ⟨0, Nat.zero_le _, rfl, by rw [HR0.out]; rfl, by rw [HR0.out]; rfl, by rw [HR0.out]; rfl, H.out⟩
  case round =>
    obtain ⟨m, hm, rfl, rfl, rfl, rfl, hO⟩ := hrel
    have HO : Hid (Own w0 wr _) := hO
    clear H HR0
    by_cases hlt : m < nl
    · have hlt' : (m : Int) < (nl : Int) := by omega
      obtain ⟨d, hd⟩ : ∃ d, D[m]? = some d := ⟨_, List.getElem?_eq_getElem (by rw [HD.out]; exact hlt)⟩
      have hdm := List.mem_of_getElem? hd
      obtain ⟨g, cp, hv, _⟩ := row_shape hO.row (by omega)
      have hla := (Value.slice.inj hv).1
      subst hla
      have hO' := hO
      rw [← HD.out] at hO'
      obtain ⟨e0, e1⟩ := ecell hO' m d hd
      obtain ⟨hk, hl6, h32⟩ := HCK.out d hdm
      have HST : Hid (R (m + 1) = rnst x y u (R m) d) := HRS.out m d hd
      have HCD : Hid (∀ w', Own w0 w' (Row 51 2 (.slice (some ⟨g, 0, none⟩) nl lc) nl (cat rcells D) :: l) → Cs w' d.2.2.1 d.2.1) := fun w' h' => HCS.out w' h' d hdm
      have HVD : Hid _ := HV.out d hdm
      have HBD : Hid _ := HB.out d hdm
      have hO5 := hO.allocC #[.int .u32 (d.1 : Int), .slice d.2.2.1 d.2.1.length d.2.2.2] 51
      have HFN : Hid (Calls _ _ _ _ _) := find_any _ d.2.2.1 d.2.1.length d.2.2.2 d.2.1 rfl (HCD.out _ hO5.tail) hk (by omega) 0 (by omega)
      have H5 : Hid (Own w0 _ _) := hO5
      unfold rnst at HST
      clear hO hO' hd hv hO5 hdm
      obtain ⟨d1, C, da, dc⟩ := d
      simp only at e0 e1 hk hl6 h32 HST HCD HVD HBD H5 HFN
      generalize hcl : C.length = cl at *
      have HCL : Hid (C.length = cl) := hcl
      clear hcl
      generalize R m = r at *
      obtain ⟨r', hr'⟩ : ∃ r', R (m + 1) = r' := ⟨_, rfl⟩
      have HR' : Hid (R (m + 1) = r') := hr'
      rw [hr'] at HST
      clear hr'
      generalize hrb : nb r = rb at *
      generalize hrm : nm r = rm at *
      generalize hrf : r.isSome = rf at *
      have HRR : Hid (nb r = rb ∧ nm r = rm ∧ r.isSome = rf) := ⟨hrb, hrm, hrf⟩
      clear hrb hrm hrf
      go_wp2_with fail
      refine HFN.out.mono ?_
      rintro e w5 ⟨r2, rfl, hf2, hcase⟩
      have hO6 := H5.out.quiet hf2
      have x0 := hO6.cell 0
      have x1 := hO6.cell 1
      simp at x0 x1
      rcases hcase with ⟨rfl, hno⟩ | ⟨i, rfl, q, hq, hqk, hy⟩
      · have H6 : Hid (Own w0 w5 _) := hO6.tail
        rw [hno] at HST
        simp only [Bool.false_eq_true, if_false] at HST
        clear hf2 hO6 H5 HFN hno
        go_wp2
        go_roundw
        case rel =>
          obtain ⟨z1, z2, z3⟩ := HRR.out
          exact ⟨m + 1, by omega, by go_num, by rw [HR'.out, HST.out, z1], by rw [HR'.out, HST.out, z2], by rw [HR'.out, HST.out, z3], H6.out⟩
        case measure => simp [intOf]; omega
      · have H6 : Hid (Own w0 w5 _) := hO6.tail
        rw [hy] at HST
        simp only [if_true] at HST
        obtain ⟨hb1, hb2⟩ := HBD.out hy
        have hqu := HVD.out q (List.mem_of_getElem? hq) hqk
        rw [← hqu] at HST hb1 hb2
        have hil : i < cl := by rw [← HCL.out]; exact (List.getElem?_eq_some_iff.1 hq).1
        obtain ⟨gc, oc, hda, _, hat⟩ := (HCD.out _ hO6.tail).at i q hq
        subst hda
        obtain ⟨c0, c1, c2, c3⟩ := hat
        obtain ⟨yk, ya, yb, yc⟩ := q
        simp only at HST hb1 hb2 c0 c1 c2 c3
        have hil' : (i : Int) < (cl : Int) := by omega
        have hs1 := sqd_le ya x hb1 HXY.out.1
        have hs2 := sqd_le yb y hb2 HXY.out.2
        have ha := sqw (sqd ya x) ((ya - x) * (ya - x)) (sqd_int ya x) hs1
        have hb := sqw (sqd yb y) ((yb - y) * (yb - y)) (sqd_int yb y) hs2
        have HN1 : Hid (rf = false ∨ sqd ya x + sqd yb y < rm → nb r' = d1 ∧ nm r' = sqd ya x + sqd yb y ∧ r'.isSome = true) := by
          intro hor
          obtain ⟨z1, z2, z3⟩ := HRR.out
          rw [HST.out]
          exact nst_new (by rw [z2, z3]; exact hor)
        have HN2 : Hid (rf = true → ¬ sqd ya x + sqd yb y < rm → nb r' = rb ∧ nm r' = rm ∧ r'.isSome = true) := by
          intro h1 h2
          obtain ⟨z1, z2, z3⟩ := HRR.out
          rw [HST.out, nst_old (by rw [z3]; exact h1) (by rw [z2]; exact h2), z1, z2, z3]
          exact ⟨rfl, rfl, h1⟩
        generalize sqd ya x = sa at *
        generalize sqd yb y = sb at *
        obtain ⟨hb1, hb3⟩ := hb1
        obtain ⟨hb2, hb4⟩ := hb2
        have HHAB : Hid (IntKind.u64.wrap (wrap64 ((ya - x) * (ya - x))) = (sa : Int) ∧ IntKind.u64.wrap (wrap64 ((yb - y) * (yb - y))) = (sb : Int)) := ⟨ha, hb⟩
        clear hf2 hO6 H5 HFN hy hqu hqk hq HVD HBD HCD HST HRR ha hb c0 c3 e0 e1
        go_wp2
        go_region_held3 (fun wv : World => wv.cell? ⟨wr.heap.size, 1, none⟩ = some (.slice (some ⟨gc, oc, none⟩) cl dc) ∧ wv.cell? ⟨gc, oc + i * 4 + 1, none⟩ = some (.int .i32 ya) ∧ wv.cell? ⟨gc, oc + i * 4 + 2, none⟩ = some (.int .i32 yb)) (go_keep) (fail)
        have hw1 : IntKind.i64.wrap (IntKind.i64.wrap ya - IntKind.i64.wrap x) = ya - x := by simp only [IntKind.wrap_i64]; omega
        have hw2 : IntKind.i64.wrap (IntKind.i64.wrap yb - IntKind.i64.wrap y) = yb - y := by simp only [IntKind.wrap_i64]; omega
        rw [hw1, hw2]
        obtain ⟨hq1, hq2⟩ := HHAB.out
        generalize ya - x = dx at hq1 ⊢
        generalize yb - y = dy at hq2 ⊢
        obtain ⟨z, hz⟩ : ∃ z, sa + sb = z := ⟨_, rfl⟩
        have hz' : (sa : Int) + (sb : Int) = (z : Int) := by omega
        have hz2 : z ≤ 9228000000000000000 := by omega
        have hz3 : IntKind.u64.wrap (z : Int) = (z : Int) := by rw [IntKind.wrap_u64]; omega
        rw [hz] at HN1 HN2
        clear hw1 hw2 HHAB hs1 hs2 hz hb1 hb2 hb3 hb4
        have H7 : Hid (Own w0 w5.drew _) := H6.out.drew
        clear H6
        cases rf with
        | false =>
          have H8 : Hid (nb r' = d1 ∧ nm r' = z ∧ r'.isSome = true) := HN1.out (.inl rfl)
          clear HN1 HN2
          go_wp2
          obtain ⟨z1, z2, z3⟩ := H8.out
          exact ⟨⟨m + 1, by omega, by go_num, by rw [HR'.out, z1], by rw [HR'.out, z2], by rw [HR'.out, z3], H7.out⟩, by simp [intOf]; omega⟩
        | true =>
          by_cases hlt2 : z < rm
          · have H8 : Hid (nb r' = d1 ∧ nm r' = z ∧ r'.isSome = true) := HN1.out (.inr hlt2)
            have hlt3 : (z : Int) < (rm : Int) := by omega
            clear HN1 HN2 hlt2
            go_wp2
            obtain ⟨z1, z2, z3⟩ := H8.out
            exact ⟨⟨m + 1, by omega, by go_num, by rw [HR'.out, z1], by rw [HR'.out, z2], by rw [HR'.out, z3], H7.out⟩, by simp [intOf]; omega⟩
          · have H8 : Hid (nb r' = rb ∧ nm r' = rm ∧ r'.isSome = true) := HN2.out rfl hlt2
            have hlt3 : ¬ (z : Int) < (rm : Int) := by omega
            clear HN1 HN2 hlt2
            go_wp2
            obtain ⟨z1, z2, z3⟩ := H8.out
            exact ⟨⟨m + 1, by omega, by go_num, by rw [HR'.out, z1], by rw [HR'.out, z2], by rw [HR'.out, z3], H7.out⟩, by simp [intOf]; omega⟩
    · have hlt' : ¬ (m : Int) < (nl : Int) := by omega
      have hjn : m = nl := by omega
      subst hjn
      clear hO
      go_wp2
      go_ret2
      exact ⟨rfl, HO.out⟩
end Go.Proofs.YtcpknpgeiafkoaaDoor

/-
  The document's example of query.
-/
namespace Go.Proofs.YtcpknpgeiafkoaaDoor
open Go.RowKit Go.Maps
set_option linter.unusedVariables false
set_option maxRecDepth 100000

theorem nums_cell {w0 w : World} {l : List Thing} {B : Nat} {cs : Array Value} {t : TypeId} (h : Own w0 w (Cells B cs t :: l)) (X : List Nat) (c : Nat) (hX : ∀ (j x : Nat), X[j]? = some x → cs[j]? = some (Value.int .u32 (x : Int))) : Nums .u32 w (.slice (some ⟨B, 0, none⟩) X.length c) X :=
  ⟨_, c, rfl, .inr ⟨B, 0, rfl, fun j x hx => by rw [Nat.zero_add, h.cell, hX j x hx]⟩⟩
theorem cs_cell {w0 w : World} {l : List Thing} {B : Nat} {cs : Array Value} {t : TypeId} (h : Own w0 w (Cells B cs t :: l)) (C : List Cp) (hX : ∀ (j : Nat) q, C[j]? = some q → cs[j * 4]? = some (.int .u8 (q.k : Int)) ∧ cs[j * 4 + 1]? = some (.int .i32 q.a) ∧ cs[j * 4 + 2]? = some (.int .i32 q.b) ∧ cs[j * 4 + 3]? = some (.int .i32 q.c)) : Cs w (some ⟨B, 0, none⟩) C := by
  refine .inr ⟨B, 0, rfl, fun j q hq => ?_⟩
  obtain ⟨h0, h1, h2, h3⟩ := hX j q hq
  rw [Nat.zero_add]
  exact ⟨by rw [h.cell, h0], by rw [h.cell, h1], by rw [h.cell, h2], by rw [h.cell, h3]⟩
def cP : Cp := ⟨0, 0, 0, 0⟩
def cL : Cp := ⟨2, 0, 0, 0⟩
def q3 (a1 a2 a3 : Option Addr) : List MkE := [⟨[cP], a1, 1, false⟩, ⟨[cP, cL], a2, 2, false⟩, ⟨[cL], a3, 1, false⟩]
theorem q3_is (a1 a2 a3 : Option Addr) : fillS (q3 a1 a2 a3) = fillS (q3 none none none) := rfl
def s3 : Sto := fillS (q3 none none none)
theorem s3_f1 : s3.find 1 0 = [1024, 1025] := by kernel_rfl
theorem s3_f2 : s3.find 1 4 = [1024] := by kernel_rfl
theorem s3_f3 : pgl 1 1 (s3.find 0 0) = [1025] := by kernel_rfl
theorem iter_s (w0 : World) (b : Nat) (Q : List MkE) (a n : Nat) (ha8 : a < 256) (hn8 : n < 256) (ht : Tab w0) : IterC w0 (some ⟨b, 0, none⟩) a n (Store b (fillS Q) 120) ((fillS Q).find a n) :=
  iter_store w0 b _ 120 (fillS_ok Q) (by decide) (fun id hid => St.list_iv (fillS_ok Q).s hid) a n ha8 hn8 ht
theorem find_lt (Q : List MkE) (a n : Nat) : ∀ x ∈ (fillS Q).find a n, x < 4294967296 := fun x hx => (St.list_iv (fillS_ok Q).s ((List.mem_filter.1 hx).1)).2
set_option maxHeartbeats 4000000 in
theorem awake12 (w : World) (ht : Tab w) : Calls Tryd.prog 7 #[] w fun e w' => e = .returned (.bool true) ∧ Fr Nobody w w' := by
  have HT : Hid (Tab w) := ht
  clear ht
  go_enter Tryd.func7, Tryd.ntmps7
  go_wp2_with fail
  have hW := ((((((Own.start w).allocC #[.int .u8 0, .int .i32 0, .int .i32 0, .int .i32 0] 58).allocC #[.int .u8 2, .int .i32 0, .int .i32 0, .int .i32 0] 58).allocC #[.int .u8 0, .int .i32 0, .int .i32 0, .int .i32 0] 58).allocC #[.int .u8 0, .int .i32 0, .int .i32 0, .int .i32 0, .int .u8 2, .int .i32 0, .int .i32 0, .int .i32 0] 58).allocC #[.int .u8 2, .int .i32 0, .int .i32 0, .int .i32 0] 58).allocC #[.slice (some ⟨w.heap.size + 1 + 1, 0, none⟩) 1 1, .bool false, .slice (some ⟨w.heap.size + 1 + 1 + 1, 0, none⟩) 2 2, .bool false, .slice (some ⟨w.heap.size + 1 + 1 + 1 + 1, 0, none⟩) 1 1, .bool false] 60
  simp only [World.size_alloc] at hW
  obtain ⟨W0, hW0⟩ : ∃ W0, W0 = ((((((w.alloc (.cells #[.int .u8 0, .int .i32 0, .int .i32 0, .int .i32 0] 58)).alloc (.cells #[.int .u8 2, .int .i32 0, .int .i32 0, .int .i32 0] 58)).alloc (.cells #[.int .u8 0, .int .i32 0, .int .i32 0, .int .i32 0] 58)).alloc (.cells #[.int .u8 0, .int .i32 0, .int .i32 0, .int .i32 0, .int .u8 2, .int .i32 0, .int .i32 0, .int .i32 0] 58)).alloc (.cells #[.int .u8 2, .int .i32 0, .int .i32 0, .int .i32 0] 58)).alloc (.cells #[.slice (some ⟨w.heap.size + 1 + 1, 0, none⟩) 1 1, .bool false, .slice (some ⟨w.heap.size + 1 + 1 + 1, 0, none⟩) 2 2, .bool false, .slice (some ⟨w.heap.size + 1 + 1 + 1 + 1, 0, none⟩) 1 1, .bool false] 60)) := ⟨_, rfl⟩
  rw [← hW0] at hW ⊢
  have k1 := cs_cell hW.four [cP] (fun j q hq => by
    match j, hq with
    | 0, hq => cases hq; exact ⟨rfl, rfl, rfl, rfl⟩
    | n + 1, hq => simp at hq)
  have k2 := cs_cell hW.three [cP, cL] (fun j q hq => by
    match j, hq with
    | 0, hq => cases hq; exact ⟨rfl, rfl, rfl, rfl⟩
    | 1, hq => cases hq; exact ⟨rfl, rfl, rfl, rfl⟩
    | n + 2, hq => simp at hq)
  have k3 := cs_cell hW.two [cL] (fun j q hq => by
    match j, hq with
    | 0, hq => cases hq; exact ⟨rfl, rfl, rfl, rfl⟩
    | n + 1, hq => simp at hq)
  have hMk : Mks W0 (some ⟨w.heap.size + 1 + 1 + 1 + 1 + 1, 0, none⟩) (q3 (some ⟨w.heap.size + 1 + 1, 0, none⟩) (some ⟨w.heap.size + 1 + 1 + 1, 0, none⟩) (some ⟨w.heap.size + 1 + 1 + 1 + 1, 0, none⟩)) := by
    refine ⟨.inr ⟨_, 0, rfl, fun j x hx => ?_⟩, fun x hx => ?_⟩
    · match j, hx with
      | 0, hx => cases hx; exact ⟨by rw [hW.cell]; rfl, by rw [hW.cell]; rfl⟩
      | 1, hx => cases hx; exact ⟨by rw [hW.cell]; rfl, by rw [hW.cell]; rfl⟩
      | 2, hx => cases hx; exact ⟨by rw [hW.cell]; rfl, by rw [hW.cell]; rfl⟩
      | n + 3, hx => simp [q3] at hx
    · simp [q3] at hx
      rcases hx with rfl | rfl | rfl
      · exact k1
      · exact k2
      · exact k3
  have HFW : Hid (Fr Nobody w W0) := hW.fr
  have HT0 : Hid (Tab W0) := HT.out.quiet HFW.out
  have HFL : Hid (Calls _ _ _ _ _) := fill_ok W0 W0 [] (Own.start W0) HT0.out _ 3 3 _ rfl (by decide) (fun w' h' => hMk.quiet h'.fr) (by
    intro x hx
    simp [q3] at hx
    rcases hx with rfl | rfl | rfl
    · exact ⟨by simp, by simp, by simp [cP]⟩
    · exact ⟨by simp, by simp, by simp [cP, cL]⟩
    · exact ⟨by simp, by simp, by simp [cL]⟩)
  rw [q3_is] at HFL
  clear hW k1 k2 k3 hMk hW0 HT
  refine HFL.out.mono ?_
  rintro e w1 ⟨b, bx, rfl, hO1⟩
  have HW1 : Hid (Calls _ _ _ _ _) := with_g W0 w1 _ (some ⟨b, 0, none⟩) (Store b s3 120) _ hO1 1 0 (iter_s W0 b _ 1 0 (by decide) (by decide) HT0.out) (by rw [show (fillS (q3 none none none)).find 1 0 = _ from s3_f1]; decide)
  rw [show (fillS (q3 none none none)).find 1 0 = _ from s3_f1] at HW1
  clear hO1 HFL
  go_wp2_with fail
  refine HW1.out.mono ?_
  rintro e w2 ⟨ra, rc, rfl, hO2⟩
  have hB2 := hO2.allocC #[.int .u32 1024, .int .u32 1025] 44
  have HM1 : Hid (Calls _ _ _ _ _) := same_ok _ (.slice ra 2 rc) (.slice (some ⟨w2.heap.size, 0, none⟩) 2 2) [1024, 1025] (Own.nums (X := [1024, 1025]) hB2.two) (nums_cell hB2 [1024, 1025] 2 (fun j x hx => by
    match j, hx with
    | 0, hx => cases hx; rfl
    | 1, hx => cases hx; rfl
    | n + 2, hx => simp at hx)) (by decide)
  have HB2 : Hid (Own W0 _ _) := hB2.tail.tail
  clear hO2 hB2 HW1
  simp only [List.length_cons, List.length_nil, Nat.zero_add]
  go_wp2_with fail
  refine HM1.out.mono ?_
  rintro e w3 ⟨rfl, hf⟩
  have HW2 : Hid (Calls _ _ _ _ _) := with_g W0 w3 _ (some ⟨b, 0, none⟩) (Store b s3 120) _ (HB2.out.quiet hf) 1 4 (iter_s W0 b _ 1 4 (by decide) (by decide) HT0.out) (by rw [show (fillS (q3 none none none)).find 1 4 = _ from s3_f2]; decide)
  rw [show (fillS (q3 none none none)).find 1 4 = _ from s3_f2] at HW2
  clear hf HM1 HB2
  go_wp2_with fail
  refine HW2.out.mono ?_
  rintro e w4 ⟨ra, rc, rfl, hO4⟩
  have hB4 := hO4.allocC #[.int .u32 1024] 44
  have HM2 : Hid (Calls _ _ _ _ _) := same_ok _ (.slice ra 1 rc) (.slice (some ⟨w4.heap.size, 0, none⟩) 1 1) [1024] (Own.nums (X := [1024]) hB4.two) (nums_cell hB4 [1024] 1 (fun j x hx => by
    match j, hx with
    | 0, hx => cases hx; rfl
    | n + 1, hx => simp at hx)) (by decide)
  have HB4 : Hid (Own W0 _ _) := hB4.tail.tail
  clear hO4 hB4 HW2
  simp only [List.length_cons, List.length_nil, Nat.zero_add]
  go_wp2_with fail
  refine HM2.out.mono ?_
  rintro e w5 ⟨rfl, hf⟩
  have HW3 : Hid (Calls _ _ _ _ _) := page_g W0 w5 _ (some ⟨b, 0, none⟩) (Store b s3 120) _ (HB4.out.quiet hf) 0 0 1 1 (iter_s W0 b _ 0 0 (by decide) (by decide) HT0.out) (Sto.find_len (fillS_ok _).s 0 0) (find_lt _ 0 0)
  rw [show pgl 1 (1 : Int).toNat ((fillS (q3 none none none)).find 0 0) = _ from s3_f3] at HW3
  clear hf HM2 HB4
  go_wp2_with fail
  refine HW3.out.mono ?_
  rintro e w6 ⟨ra, rc, rfl, hO6⟩
  have hB6 := hO6.allocC #[.int .u32 1025] 44
  have HM3 : Hid (Calls _ _ _ _ _) := same_ok _ (.slice ra 1 rc) (.slice (some ⟨w6.heap.size, 0, none⟩) 1 1) [1025] (Own.nums (X := [1025]) hB6.two) (nums_cell hB6 [1025] 1 (fun j x hx => by
    match j, hx with
    | 0, hx => cases hx; rfl
    | n + 1, hx => simp at hx)) (by decide)
  have HB6 : Hid (Fr Nobody w _) := HFW.out.trans hB6.fr
  clear hO6 hB6 HW3
  simp only [List.length_cons, List.length_nil, Nat.zero_add]
  go_wp2_with fail
  refine HM3.out.mono ?_
  rintro e w7 ⟨rfl, hf⟩
  have H7 : Hid (Fr Nobody w w7) := HB6.out.trans hf
  clear hf
  go_wp2
  go_ret
  exact ⟨rfl, H7.out⟩
end Go.Proofs.YtcpknpgeiafkoaaDoor

/-
  Lists of entities that are made, as they come in.
-/
namespace Go.Proofs.YtcpknpgeiafkoaaDoor
open Go.ChangeShapes Go.WideShapes Go.ChangeAt Go.RowKit Go.Deep
set_option linter.unusedVariables false
set_option maxRecDepth 100000

theorem cellsMk : Tryd.prog.cellsOf 60 = 2 := by kernel_rfl
theorem cellsMC : Tryd.prog.cellsOf 49 = 1 := by kernel_rfl
theorem cellsMB : Tryd.prog.cellsOf 4 = 1 := by kernel_rfl
theorem lst2 {β : Type} {l : List β} (h : l.length = 2) : ∃ a b, l = [a, b] := by
  match l, h with
  | [a, b], _ => exact ⟨a, b, rfl⟩
def MkT (W : World) (cs : List Value) (x : MkE) : Prop := cs = [.slice x.ao x.C.length x.cap, .bool x.g] ∧ IsComps W x.ao x.C.length x.cap x.C
theorem mk_is {H : Type} {enc : TypeId × Value → H} {W : World} (fuel : Nat) (cs : List Value) (x : DataW H × List MemPlace)
    (h : DataW.trod enc Tryd.prog W 0 (fun _ => true) true fuel 60 cs = some x) : ∃ o, MkT W cs o := by
  obtain ⟨xs, n, _, hx, hl, hlen, hf⟩ := DataW.trod_struct Tryd.underlying60 h
  rw [cellsMk] at hl
  obtain ⟨c0, c1, rfl⟩ := lst2 hl
  obtain ⟨y0, y1, rfl⟩ := lst2 hlen
  have h0 := hf 0 _ rfl
  have h1 := hf 1 _ rfl
  simp [cellsMC, cellsMB] at h0 h1
  obtain ⟨b, b0, _⟩ := DataW.trod_bool Tryd.underlying4 h1
  simp at b0
  subst b0
  obtain ⟨ao, len, cap, hv⟩ : ∃ ao len cap, c0 = .slice ao len cap := by
    rcases open_slice Tryd.underlying49 h0 with ⟨hc, _⟩ | ⟨a, l, c, m, n, D, Pl, hc, _⟩
    · simp at hc; exact ⟨_, _, _, hc⟩
    · simp at hc; exact ⟨_, _, _, hc⟩
  subst hv
  obtain ⟨d, p⟩ := y0
  obtain ⟨Q, hQ⟩ : ∃ Q, IsComps W ao len cap Q := open_rows 4 Tryd.underlying49 cellsComp (by decide) CompIs (fun fuel cs x hx => by
    obtain ⟨k, a, b, c, h1, h2, h3, h4, hcs, _⟩ := comp_cells hx
    obtain ⟨n, rfl, hn⟩ := ok8_nat h1
    exact ⟨⟨n, a, b, c⟩, hcs, hn⟩) ⟨_, h0⟩
  have hql := hQ.1
  subst hql
  exact ⟨⟨Q, ao, cap, b⟩, rfl, hQ⟩
def IsMks (w : World) (ao : Option Addr) (len cap : Nat) (Q : List MkE) : Prop := Q.length = len ∧ len ≤ cap ∧ cap ≤ maxLen ∧ RowsAt (MkT w) 2 w ao Q
theorem open_ops {H : Type} {enc : TypeId × Value → H} {W : World} {base : Nat} {ao : Option Addr} {len cap : Nat} {d : DataW H} {p : List MemPlace}
    (hv : Value.okWide Tryd.prog W .any base 22 (.slice ao len cap)) (h : DataW.Trod enc Tryd.prog W 0 (fun _ => true) true 22 (.slice ao len cap) d p) : ∃ Q, IsMks W ao len cap Q := by
  haveI : Inhabited MkE := ⟨⟨[], none, 0, false⟩⟩
  exact open_rows 2 Tryd.underlying22 cellsMk (by decide) (MkT W) (fun fuel cs x hx => mk_is fuel cs x hx) h
theorem IsMks.mks {w : World} {ao : Option Addr} {len cap : Nat} {Q : List MkE} (h : IsMks w ao len cap Q) : Mks w ao Q ∧ ∀ x ∈ Q, x.C.length ≤ x.cap ∧ x.cap ≤ 9223372036854775807 ∧ ∀ q ∈ x.C, q.k < 256 := by
  obtain ⟨hl, _, _, hR⟩ := h
  have key : ∀ x ∈ Q, IsComps w x.ao x.C.length x.cap x.C := by
    intro o ho
    obtain ⟨j, hj⟩ := List.getElem?_of_mem ho
    rcases hR with h | ⟨g, of, ha, hc⟩
    · subst h; simp at hj
    · obtain ⟨cs, ⟨_, h4⟩, _⟩ := hc j o hj
      exact h4
  refine ⟨⟨?_, fun o ho => (key o ho).cs.1⟩, fun x hx => ⟨(key x hx).2.1, ?_, (key x hx).cs.2⟩⟩
  · rcases hR with h | ⟨g, of, ha, hc⟩
    · exact .inl h
    · refine .inr ⟨g, of, ha, fun j o hj => ?_⟩
      obtain ⟨cs, ⟨rfl, _⟩, _, h3⟩ := hc j o hj
      exact ⟨h3 0 (by decide), h3 1 (by decide)⟩
  · have := (key x hx).2.2.1
    unfold maxLen at this
    omega
/-- the document's list of a store that was filled, and what fits of it -/
theorem rlist12 (w0 w : World) (l : List Thing) (bx : Nat) (Q : List MkE) (x : RX) (h : Own w0 w (RSX bx (fillS Q).S x :: l)) (hx : RXok (fillS Q) x 120) :
    Calls Tryd.prog 12 #[.pointer (some ⟨bx, 0, none⟩)] w fun e w' => ∃ ao cap, e = .returned (.slice ao (fillS Q).S.list.length cap) ∧ Own w0 w' (Row 51 2 (.slice ao (fillS Q).S.list.length cap) (fillS Q).S.list.length (cat rcells ((fillS Q).S.list.map (x.at (fillS Q)))) :: RSX bx (fillS Q).S x :: l) :=
  rlistS w0 w l bx (fillS Q) 120 x h hx (fillS_ok Q) (by decide) (fun id hid => (St.list_iv (fillS_ok Q).s hid).1)
theorem rw12 (w0 w : World) (l : List Thing) (bx : Nat) (Q : List MkE) (x : RX) (hx : RXok (fillS Q) x 120) (la : Option Addr) (lc : Nat) (h : Own w0 w (Row 51 2 (.slice la (fillS Q).S.list.length lc) (fillS Q).S.list.length (cat rcells ((fillS Q).S.list.map (x.at (fillS Q)))) :: RSX bx (fillS Q).S x :: l)) (a n : Nat) (ha : a < 256) (hn : n < 256) (f : Int) :
    Calls Tryd.prog 11 #[.slice la (fillS Q).S.list.length lc, .int .u8 (a : Int), .int .u8 (n : Int), .int .i64 f] w fun e w' => ∃ ra rc, e = .returned (.slice ra (((fillS Q).find a n).filter (fun id => decide (f ≤ ((id % 1024 : Nat) : Int)))).length rc) ∧ Own w0 w' (Row 44 1 (.slice ra (((fillS Q).find a n).filter (fun id => decide (f ≤ ((id % 1024 : Nat) : Int)))).length rc) (((fillS Q).find a n).filter (fun id => decide (f ≤ ((id % 1024 : Nat) : Int)))).length (irow .u32 (((fillS Q).find a n).filter (fun id => decide (f ≤ ((id % 1024 : Nat) : Int))))) :: RSX bx (fillS Q).S x :: l) := by
  have hσ := fillS_ok Q
  have hLV : ∀ id ∈ (fillS Q).S.list, (fillS Q).S.isLive id = true ∧ id < 4294967296 := fun id hid => St.list_iv hσ.s hid
  rw [← find_eq hx hσ hLV ha hn f]
  refine (rwith12 w0 w _ la _ lc _ h (by simp) (list_len2 hσ.s) (fun w' h' d hd => ?_) (fun d hd => ?_) a n ha hn f).mono ?_
  · obtain ⟨id, hid, rfl⟩ := List.mem_map.1 hd
    have hl := (hLV id hid).1
    obtain ⟨_, _, h2, _⟩ := hx.at hσ hl
    rw [h2]
    exact hx.atCs hσ hl h'.tail
  · obtain ⟨id, hid, rfl⟩ := List.mem_map.1 hd
    obtain ⟨hl, h32⟩ := hLV id hid
    obtain ⟨_, h1, h2, _⟩ := hx.at hσ hl
    obtain ⟨r, C, hr, he, hlC, _⟩ := hσ.ent hl
    rw [h1, h2, Sto.cps_of hr he]
    exact ⟨fun q hq => by have := chk_k ((lst_ok hlC).2 q hq).2; omega, lst_len6 hlC, h32⟩
  · rintro e w' ⟨ra, rc, rfl, h1⟩
    exact ⟨ra, rc, rfl, h1.two.tail⟩
end Go.Proofs.YtcpknpgeiafkoaaDoor

/-
  Sums and who is the nearest, of a store that was filled: the program's answers and the document's.
-/
namespace Go.Proofs.YtcpknpgeiafkoaaDoor
open Go.RowKit Go.Maps
set_option linter.unusedVariables false
set_option maxRecDepth 100000

theorem fit_one {C : List Cp} (hC : ∀ q ∈ C, q.k < 6) (k : Nat) : fitb (2 ^ k) 0 (msk C) = hasK C k := by
  rw [hasK_tb hC]
  unfold fitb
  simp only [Nat.and_zero, decide_true, Bool.and_true]
  have e : msk C &&& 2 ^ k = if (msk C).testBit k then 2 ^ k else 0 := by
    apply Nat.eq_of_testBit_eq
    intro i
    rw [Nat.testBit_and, Nat.testBit_two_pow]
    by_cases hki : k = i
    · subst hki
      cases h : (msk C).testBit k <;> simp
    · cases h : (msk C).testBit k <;> simp [hki]
  rw [e]
  cases h : (msk C).testBit k
  · have := Nat.two_pow_pos k
    simp
    omega
  · simp
/-- of an entity of the document's list: its component of a kind -/
def ugv (k : Nat) (d : REnt) : Cp := if hasK d.2.1 k then mkc k (fv d.2.1 k) else ⟨0, 0, 0, 0⟩
theorem ugv_at {σ : Sto} {x : RX} {K : Nat} (hx : RXok σ x K) (hσ : σ.Ok) {id : Nat} (hl : σ.S.isLive id = true) (k : Nat) : ugv k (x.at σ id) = σ.gv id k ∧ (x.at σ id).2.1 = σ.cps id ∧ (x.at σ id).1 = id := by
  obtain ⟨_, h1, h2, _⟩ := hx.at hσ hl
  refine ⟨?_, h2, h1⟩
  unfold ugv Sto.gv
  rw [h2]
theorem cps6 {σ : Sto} (hσ : σ.Ok) {id : Nat} (hl : σ.S.isLive id = true) : lst (-1) (σ.cps id) = 0 ∧ ∀ q ∈ σ.cps id, q.k < 6 := by
  obtain ⟨r, C, hr, he, hlC, _⟩ := hσ.ent hl
  rw [Sto.cps_of hr he]
  exact ⟨hlC, fun q hq => chk_k ((lst_ok hlC).2 q hq).2⟩
theorem find_one {σ : Sto} (hσ : σ.Ok) (k : Nat) : σ.find (2 ^ k) 0 = σ.S.list.filter (fun id => hasK (σ.cps id) k) := by
  unfold Sto.find
  refine List.filter_congr (fun id hid => ?_)
  rw [fit_one (cps6 hσ (St.list_iv hσ.s hid).1).2]
theorem sum_filter {α : Type} (p : α → Bool) (f : α → Int) : ∀ L : List α, ((L.filter p).map f).sum = (L.map (fun a => if p a then f a else 0)).sum
  | [] => rfl
  | a :: L => by
    have ih := sum_filter p f L
    rw [List.filter_cons]
    cases h : p a
    · simp [h, ih]
    · simp [h, ih]
theorem usum {σ : Sto} {x : RX} {K : Nat} (hx : RXok σ x K) (hσ : σ.Ok) (k j : Nat) : ((σ.S.list.map (x.at σ)).map (rone k j (ugv k))).sum = sumF (fun id => σ.gv id k) j (σ.find (2 ^ k) 0) := by
  unfold sumF
  rw [find_one hσ, sum_filter, List.map_map]
  congr 1
  refine List.map_congr_left (fun id hid => ?_)
  obtain ⟨h1, h2, h3⟩ := ugv_at hx hσ (St.list_iv hσ.s hid).1 k
  show rone k j (ugv k) (x.at σ id) = _
  unfold rone
  rw [h1, h2]
theorem foldl_at {α β γ : Type} (f : β → γ → β) (g : β → α → β) (h : α → γ) : ∀ (L : List α) (b : β), (∀ a ∈ L, ∀ b, f b (h a) = g b a) → (L.map h).foldl f b = L.foldl g b
  | [], _, _ => rfl
  | a :: L, b, he => by
    simp only [List.map_cons, List.foldl_cons]
    rw [he a (by simp) b]
    exact foldl_at f g h L _ (fun a' ha' => he a' (List.mem_cons_of_mem _ ha'))
theorem unear {σ : Sto} {x : RX} {K : Nat} (hx : RXok σ x K) (hσ : σ.Ok) (px py : Int) : (σ.S.list.map (x.at σ)).foldl (rnst px py (ugv 0)) none = nrf (fun id => σ.gv id 0) px py (σ.find (2 ^ 0) 0) := by
  unfold nrf
  rw [find_one hσ, List.foldl_filter]
  refine foldl_at _ _ _ _ _ (fun id hid r => ?_)
  obtain ⟨h1, h2, h3⟩ := ugv_at hx hσ (St.list_iv hσ.s hid).1 0
  unfold rnst
  rw [h1, h2, h3]
/-- of a store that was filled: what Get tells of those that are found -/
theorem get_found (w0 : World) (b : Nat) (Q : List MkE) (k : Nat) (hk : k < 6) : ∀ id ∈ (fillS Q).find (2 ^ k) 0, (∀ w' l', Own w0 w' (Store b (fillS Q) 120 :: l') → Calls Tryd.prog 35 #[.pointer (some ⟨b, 0, none⟩), .int .u32 (id : Int), .int .u8 (k : Int)] w' fun e w'' => e = .returned (.tuple #[((fillS Q).gv id k).ag, .int .i64 0]) ∧ Own w0 w'' (Store b (fillS Q) 120 :: l')) ∧ ((fillS Q).gv id k).k = k ∧ ((fillS Q).gv id k).chk = 0 := by
  intro id hid
  have hσ := fillS_ok Q
  obtain ⟨hl, h32, hh⟩ := mem_one hσ hk hid
  refine ⟨fun w' l' h' => ?_, gv_of2 hσ hl hh⟩
  have := sgetC w0 w' l' b (fillS Q) 120 h' hσ id h32 hl k (by omega)
  rw [hh] at this
  exact this
theorem pos_in {q : Cp} (hk : q.k = 0) (h : q.chk = 0) : (-524288 ≤ q.a ∧ q.a ≤ 524287) ∧ -524288 ≤ q.b ∧ q.b ≤ 524287 :=
  ⟨chk_fld (j := 0) (by rw [hk]; decide) (by rw [hk]; decide) (by decide) h, chk_fld (j := 1) (by rw [hk]; decide) (by rw [hk]; decide) (by decide) h⟩
/-- the program's Sum and the document's -/
theorem sums_two (w0 : World) (ht : Tab w0) (Q : List MkE) (k : Nat) (hk : k < 256) (i : Int) : ∃ S E : Int,
    (∀ w' b l', Own w0 w' (Store b (fillS Q) 120 :: l') → Calls Tryd.prog 15 #[.pointer (some ⟨b, 0, none⟩), .int .u8 (k : Int), .int .i64 i] w' fun e w'' => e = .returned (.tuple #[.int .i64 S, .int .i64 E]) ∧ Own w0 w'' (Store b (fillS Q) 120 :: l')) ∧
    (∀ w' bx x la lc l', RXok (fillS Q) x 120 → Own w0 w' (Row 51 2 (.slice la (fillS Q).S.list.length lc) (fillS Q).S.list.length (cat rcells ((fillS Q).S.list.map (x.at (fillS Q)))) :: RSX bx (fillS Q).S x :: l') → Calls Tryd.prog 16 #[.slice la (fillS Q).S.list.length lc, .int .u8 (k : Int), .int .i64 i] w' fun e w'' => e = .returned (.tuple #[.int .i64 S, .int .i64 E]) ∧ Own w0 w'' (RSX bx (fillS Q).S x :: l')) := by
  have hσ := fillS_ok Q
  have hLV : ∀ id ∈ (fillS Q).S.list, (fillS Q).S.isLive id = true ∧ id < 4294967296 := fun id hid => St.list_iv hσ.s hid
  cases hh : has k i with
  | false =>
    refine ⟨0, 1, fun w' b l' h' => sum_no w0 w' _ _ ht h' k hk i hh, fun w' bx x la lc l' hx h' => ?_⟩
    refine (rsum_no12 w0 w' _ (.slice la (fillS Q).S.list.length lc) h' k hk i hh).mono ?_
    rintro e w'' ⟨rfl, h2⟩
    exact ⟨rfl, h2.tail⟩
  | true =>
    obtain ⟨j, rfl, hj, hk6, hj3⟩ := has_nat k i hh
    refine ⟨sumF (fun id => (fillS Q).gv id k) j ((fillS Q).find (2 ^ k) 0), 0, fun w' b l' h' => ?_, fun w' bx x la lc l' hx h' => ?_⟩
    · refine sum_g w0 w' l' (some ⟨b, 0, none⟩) (Store b (fillS Q) 120) _ ht h' k j hj _ (iter_s w0 b Q (2 ^ k) 0 (by have := Nat.pow_lt_pow_right (show 1 < 2 by decide) (show k < 8 by omega); omega) (by decide) ht) (Sto.find_len hσ.s _ _) (fun id hid => ?_)
      obtain ⟨g1, g2, g3⟩ := get_found w0 b Q k hk6 id hid
      exact ⟨g1, chk_fld (by rw [g2]; exact hk6) (by rw [g2]; exact hj) hj3 g3⟩
    · rw [← usum hx hσ k j]
      refine (rsum12 w0 w' _ la _ lc _ h' (by simp) (list_len2 hσ.s) (fun w2 h2 d hd => ?_) (fun d hd => ?_) k j hj (ugv k) (fun d hd q hq hqk => ?_) (fun d hd hy => ?_)).mono ?_
      · obtain ⟨id, hid, rfl⟩ := List.mem_map.1 hd
        rw [(ugv_at hx hσ (hLV id hid).1 k).2.1]
        exact hx.atCs hσ (hLV id hid).1 h2.tail
      · obtain ⟨id, hid, rfl⟩ := List.mem_map.1 hd
        obtain ⟨hl, h32⟩ := hLV id hid
        obtain ⟨_, h2, h1⟩ := ugv_at hx hσ hl k
        obtain ⟨hlC, h6⟩ := cps6 hσ hl
        rw [h1, h2]
        exact ⟨fun q hq => by have := h6 q hq; omega, lst_len6 hlC, h32⟩
      · obtain ⟨id, hid, rfl⟩ := List.mem_map.1 hd
        obtain ⟨hl, h32⟩ := hLV id hid
        obtain ⟨h0, h2, h1⟩ := ugv_at hx hσ hl k
        obtain ⟨hlC, h6⟩ := cps6 hσ hl
        rw [h2] at hq
        rw [h0]
        unfold Sto.gv
        rw [if_pos ((hasK_iff _ k).2 ⟨q, hq, hqk⟩), ← hqk, fv_of hlC hq]
        rfl
      · obtain ⟨id, hid, rfl⟩ := List.mem_map.1 hd
        obtain ⟨hl, h32⟩ := hLV id hid
        obtain ⟨h0, h2, h1⟩ := ugv_at hx hσ hl k
        rw [h2] at hy
        obtain ⟨g2, g3⟩ := gv_of2 hσ hl hy
        rw [h0]
        exact chk_fld (by rw [g2]; exact hk6) (by rw [g2]; exact hj) hj3 g3
      · rintro e w'' ⟨rfl, h2⟩
        exact ⟨rfl, h2.tail⟩
/-- the program's Nearest and the document's -/
theorem near_two (w0 : World) (ht : Tab w0) (Q : List MkE) (px py : Int) (hpx : -2147483648 ≤ px ∧ px ≤ 2147483647) (hpy : -2147483648 ≤ py ∧ py ≤ 2147483647) : ∃ (N : Nat) (F : Bool),
    (∀ w' b l', Own w0 w' (Store b (fillS Q) 120 :: l') → Calls Tryd.prog 17 #[.pointer (some ⟨b, 0, none⟩), .int .i32 px, .int .i32 py] w' fun e w'' => e = .returned (.tuple #[.int .u32 (N : Int), .bool F]) ∧ Own w0 w'' (Store b (fillS Q) 120 :: l')) ∧
    (∀ w' bx x la lc l', RXok (fillS Q) x 120 → Own w0 w' (Row 51 2 (.slice la (fillS Q).S.list.length lc) (fillS Q).S.list.length (cat rcells ((fillS Q).S.list.map (x.at (fillS Q)))) :: RSX bx (fillS Q).S x :: l') → Calls Tryd.prog 18 #[.slice la (fillS Q).S.list.length lc, .int .i32 px, .int .i32 py] w' fun e w'' => e = .returned (.tuple #[.int .u32 (N : Int), .bool F]) ∧ Own w0 w'' (RSX bx (fillS Q).S x :: l')) := by
  have hσ := fillS_ok Q
  have hLV : ∀ id ∈ (fillS Q).S.list, (fillS Q).S.isLive id = true ∧ id < 4294967296 := fun id hid => St.list_iv hσ.s hid
  refine ⟨nb (nrf (fun id => (fillS Q).gv id 0) px py ((fillS Q).find (2 ^ 0) 0)), (nrf (fun id => (fillS Q).gv id 0) px py ((fillS Q).find (2 ^ 0) 0)).isSome, fun w' b l' h' => ?_, fun w' bx x la lc l' hx h' => ?_⟩
  · refine nearest_g w0 w' l' (some ⟨b, 0, none⟩) (Store b (fillS Q) 120) _ h' px py hpx hpy _ (iter_s w0 b Q (2 ^ 0) 0 (by decide) (by decide) ht) (fun id hid => ?_)
    obtain ⟨g1, g2, g3⟩ := get_found w0 b Q 0 (by decide) id hid
    exact ⟨g1, pos_in g2 g3⟩
  · rw [← unear hx hσ px py]
    refine (rnear12 w0 w' _ la _ lc _ h' (by simp) (list_len2 hσ.s) (fun w2 h2 d hd => ?_) (fun d hd => ?_) px py hpx hpy (ugv 0) (fun d hd q hq hqk => ?_) (fun d hd hy => ?_)).mono ?_
    · obtain ⟨id, hid, rfl⟩ := List.mem_map.1 hd
      rw [(ugv_at hx hσ (hLV id hid).1 0).2.1]
      exact hx.atCs hσ (hLV id hid).1 h2.tail
    · obtain ⟨id, hid, rfl⟩ := List.mem_map.1 hd
      obtain ⟨hl, h32⟩ := hLV id hid
      obtain ⟨_, h2, h1⟩ := ugv_at hx hσ hl 0
      obtain ⟨hlC, h6⟩ := cps6 hσ hl
      rw [h1, h2]
      exact ⟨fun q hq => by have := h6 q hq; omega, lst_len6 hlC, h32⟩
    · obtain ⟨id, hid, rfl⟩ := List.mem_map.1 hd
      obtain ⟨hl, h32⟩ := hLV id hid
      obtain ⟨h0, h2, h1⟩ := ugv_at hx hσ hl 0
      obtain ⟨hlC, h6⟩ := cps6 hσ hl
      rw [h2] at hq
      rw [h0]
      unfold Sto.gv
      rw [if_pos ((hasK_iff _ 0).2 ⟨q, hq, hqk⟩), ← hqk, fv_of hlC hq]
      rfl
    · obtain ⟨id, hid, rfl⟩ := List.mem_map.1 hd
      obtain ⟨hl, h32⟩ := hLV id hid
      obtain ⟨h0, h2, h1⟩ := ugv_at hx hσ hl 0
      rw [h2] at hy
      obtain ⟨g2, g3⟩ := gv_of2 hσ hl hy
      rw [h0]
      exact pos_in g2 g3
    · rintro e w'' ⟨rfl, h2⟩
      exact ⟨rfl, h2.tail⟩
theorem near_nil (w0 w : World) (l : List Thing) (h : Own w0 w l) (px py : Int) (hpx : -2147483648 ≤ px ∧ px ≤ 2147483647) (hpy : -2147483648 ≤ py ∧ py ≤ 2147483647) :
    Calls Tryd.prog 17 #[.pointer none, .int .i32 px, .int .i32 py] w fun e w'' => e = .returned (.tuple #[.int .u32 0, .bool false]) ∧ Own w0 w'' l := by
  refine (nearest_g w0 w l none Nil [] (Own.nil_iff.2 h) px py hpx hpy (fun _ => ⟨0, 0, 0, 0⟩) (iter_nil w0 1 0) (fun id hid => by simp at hid)).mono ?_
  rintro e w'' ⟨rfl, h2⟩
  exact ⟨rfl, Own.nil_iff.1 h2⟩
end Go.Proofs.YtcpknpgeiafkoaaDoor
