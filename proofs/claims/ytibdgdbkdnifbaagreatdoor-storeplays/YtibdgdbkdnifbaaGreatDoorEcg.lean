/-
  A store and the document's that have the same are alike: numbers, entities, makes.
-/
import Derived.Test.YtibdgdbkdnifbaaGreatDoorEbg
import Derived.Deep.RegionHeld3
namespace Go.Proofs.YtibdgdbkdnifbaaGreatDoor
open Go.RowKit Go.Maps
set_option linter.unusedVariables false
set_option maxRecDepth 100000

theorem Own.five {w0 w : World} {P Q R S T : Thing} {l : List Thing} (h : Own w0 w (P :: Q :: R :: S :: T :: l)) : Own w0 w (T :: P :: Q :: R :: S :: l) := h.perm (List.perm_middle (l₁ := [P, Q, R, S]) (a := T) (l₂ := l))
theorem ccat_set1 (C : List Cp) (k : Nat) (q : Cp) (a : Int) (hq : C[k]? = some q) : ccat (C.set k ⟨q.k, a, q.b, q.c⟩) = (ccat C).set (k * 4 + 1) (.int .i32 a) := by
  induction C generalizing k with
  | nil => simp at hq
  | cons y C ih =>
    have e1 : ∀ (A : List Cp) (z : Cp), ccat (z :: A) = [.int .u8 (z.k : Int), .int .i32 z.a, .int .i32 z.b, .int .i32 z.c] ++ ccat A := fun _ _ => rfl
    cases k with
    | zero => simp at hq; subst hq; rw [List.set_cons_zero, e1, e1]; simp
    | succ k =>
      have ih := ih k (by simpa using hq)
      rw [List.set_cons_succ, e1, e1, ih, show (k + 1) * 4 + 1 = k * 4 + 1 + 1 + 1 + 1 + 1 by omega]
      simp

theorem gcell {w0 w : World} {l : List Thing} {ra : Option Addr} {rc : Nat} {G : List GrE} (h : Own w0 w (Row 63 2 (.slice ra G.length rc) G.length (cat GrE.cs G) :: l)) (i : Nat) (y : GrE) (hy : G[i]? = some y) :
    ∃ g, ra = some ⟨g, 0, none⟩ ∧ w.cell? ⟨g, i * 2, none⟩ = some (.int .u8 (y.m : Int)) ∧ w.cell? ⟨g, i * 2 + 1, none⟩ = some (.slice y.ao y.I.length y.cap) := by
  have hi := (List.getElem?_eq_some_iff.1 hy).1
  obtain ⟨g, cp, hg, _⟩ := row_shape h.row (by omega)
  have ha := (Value.slice.inj hg).1
  subst ha
  refine ⟨g, rfl, ?_, ?_⟩
  · rw [h.row.cellAt _ (by omega)]
    exact (cat_at GrE.cs 2 (fun _ => rfl) G i 0 y hy (by decide)).trans rfl
  · rw [h.row.cellAt _ (by omega)]
    exact (cat_at GrE.cs 2 (fun _ => rfl) G i 1 y hy (by decide)).trans rfl
set_option maxHeartbeats 8000000 in
theorem alike11 (w0 w : World) (l : List Thing) (b b2 : Nat) (σ : Sto) (K K2 : Nat) (x : RX) (h : Own w0 w (Store b σ K :: RSX b2 σ.S x :: l)) (hx : RXok σ x K2) (hσ : σ.Ok) (hK : K ≤ 1000000) (hK2 : K2 ≤ 1000000) (hLV : ∀ id ∈ σ.S.list, σ.S.isLive id = true ∧ id < 4294967296) :
    Calls Tryz.prog 22 #[.pointer (some ⟨b, 0, none⟩), .pointer (some ⟨b2, 0, none⟩)] w fun e w' => e = .returned (.bool true) ∧ Own w0 w' (Store b σ K :: RSX b2 σ.S x :: l) := by
  have q0 := RSX.ids w0 w _ b2 σ x h.two
  have HRL : Hid (Calls _ _ _ _ _) := rids11 h.two hx hσ.s
  have HLI : Hid (∀ w' l', Own w0 w' (Store b σ K :: l') → Calls Tryz.prog 53 #[.pointer (some ⟨b, 0, none⟩)] w' fun e w'' => ∃ la lc, e = .returned (.slice la σ.S.list.length lc) ∧ Own w0 w'' (Row 32 1 (.slice la σ.S.list.length lc) σ.S.list.length (irow .u32 σ.S.list) :: Store b σ K :: l')) := by
    intro w' l' h'
    refine (slist w0 w' l' b σ K h' hσ.s).mono ?_
    rintro e w'' ⟨v, rfl, h2⟩
    obtain ⟨la, lc, rfl⟩ := row_any h2.row
    exact ⟨la, lc, rfl, h2⟩
  have HLN : Hid (∀ w' l', Own w0 w' (Store b σ K :: l') → Calls Tryz.prog 51 #[.pointer (some ⟨b, 0, none⟩)] w' fun e w'' => e = .returned (.int .i64 (σ.S.list.length : Int)) ∧ Own w0 w'' (Store b σ K :: l')) := by
    intro w' l' h'
    rw [St.list_length hσ.s]
    exact slen w0 w' l' b σ K h'
  have HRM : Hid (∀ w' l', Own w0 w' (Store b σ K :: l') → Calls Tryz.prog 52 #[.pointer (some ⟨b, 0, none⟩)] w' fun e w'' => e = .returned (.int .i64 (σ.S.room : Int)) ∧ Own w0 w'' (Store b σ K :: l')) := fun w' l' h' => sroom w0 w' l' b σ K h' hσ.s
  have HEL : Hid (∀ w' l', Own w0 w' (RSX b2 σ.S x :: l') → Calls Tryz.prog 55 #[.pointer (some ⟨b2, 0, none⟩)] w' fun e w'' => ∃ la lc, e = .returned (.slice la σ.S.list.length lc) ∧ Own w0 w'' (Row 94 2 (.slice la σ.S.list.length lc) σ.S.list.length (cat rcells (σ.S.list.map (x.at σ))) :: RSX b2 σ.S x :: l')) := fun w' l' h' => rlistS w0 w' l' b2 σ K2 x h' hx hσ hK2 (fun id hi => (hLV id hi).1)
  have HEN : Hid (∀ w' l' (j id : Nat), σ.S.list[j]? = some id → Own w0 w' (Store b σ K :: l') → Calls Tryz.prog 56 #[.pointer (some ⟨b, 0, none⟩), .int .u32 (id : Int)] w' fun e w'' => ∃ ao cap, e = .returned (.tuple #[.agg #[.int .u32 (id : Int), .slice ao (σ.cps id).length cap], .int .i64 0]) ∧ Own w0 w'' (Row 48 4 (.slice ao (σ.cps id).length cap) (σ.cps id).length (ccat (σ.cps id)) :: Store b σ K :: l')) := by
    intro w' l' j id hj h'
    obtain ⟨hl, h32⟩ := hLV id (List.mem_of_getElem? hj)
    obtain ⟨r, C, hr, he, _⟩ := hσ.ent hl
    rw [Sto.cps_of hr he]
    exact sent w0 w' l' b σ K h' hσ id h32 hl r C he hK
  have HLB : Hid (∀ w' l' (j id : Nat), σ.S.list[j]? = some id → Own w0 w' (Store b σ K :: l') → Calls Tryz.prog 58 #[.pointer (some ⟨b, 0, none⟩), .int .u32 (id : Int)] w' fun e w'' => e = .returned (.bool true) ∧ Own w0 w'' (Store b σ K :: l')) := by
    intro w' l' j id hj h'
    obtain ⟨hl, h32⟩ := hLV id (List.mem_of_getElem? hj)
    have := slive w0 w' l' b σ K h' hσ.s id h32
    rw [hl] at this
    exact this
  have HAT : Hid (∀ (j id : Nat), σ.S.list[j]? = some id → (x.at σ id).1 = id ∧ (x.at σ id).2.1 = σ.cps id ∧ (σ.cps id).length ≤ 6 ∧ ∀ w' l', Own w0 w' (RSX b2 σ.S x :: l') → Cs w' (x.at σ id).2.2.1 (σ.cps id)) := by
    intro j id hj
    obtain ⟨hl, h32⟩ := hLV id (List.mem_of_getElem? hj)
    obtain ⟨_, h1, h2, _⟩ := hx.at hσ hl
    obtain ⟨r, C, hr, he, _⟩ := hσ.ent hl
    refine ⟨h1, h2, ?_, fun w' l' h' => hx.atCs hσ hl h'⟩
    rw [Sto.cps_of hr he]
    exact (hσ.t _ (hσ.home hl).1).c6 he
  have HGR : Hid (∀ w' l', Own w0 w' (Store b σ K :: l') → Calls Tryz.prog 23 #[.pointer (some ⟨b, 0, none⟩)] w' fun e w'' => ∃ G ra rc, e = .returned (.slice ra G.length rc) ∧ G.map GrE.is = σ.grs 64 ∧ Own w0 w'' (Row 63 2 (.slice ra G.length rc) G.length (cat GrE.cs G) :: (G.map GrE.row ++ Store b σ K :: l'))) := fun w' l' h' => sgroups11 w0 w' l' b σ K h' hK
  have HTB : Hid (∀ w' l' m, m < 64 → Own w0 w' (RSX b2 σ.S x :: l') → ∃ ao cap, w'.cell? ⟨b2, 1 + m * 2 + 1, none⟩ = some (.slice ao (σ.T m).length cap)) := fun w' l' m hm h' => RSX.tab h' hx m hm
  have HTW : Hid (∀ w' l' m, m < 64 → ∀ (r id : Nat), (ids (σ.T m))[r]? = some id → Own w0 w' (RSX b2 σ.S x :: l') → ∃ (g cap : Nat) (dv : Option Addr × Nat × Nat), w'.cell? ⟨b2, 1 + m * 2 + 1, none⟩ = some (.slice (some ⟨g, 0, none⟩) (σ.T m).length cap) ∧ w'.cell? ⟨g, r * 2, none⟩ = some (.int .u32 (id : Int)) ∧ w'.cell? ⟨g, r * 2 + 1, none⟩ = some (.slice dv.1 dv.2.1 dv.2.2)) := fun w' l' m hm r id hr h' => RSX.who h' hx m hm r id hr
  have HTL : Hid (∀ m, m < 64 → (σ.T m).length ≤ 1000000) := fun m hm => Nat.le_trans (hx.len m hm) hK2
  have hn24 := list_len hσ.s
  have hH := h.two
  clear h hx hσ hLV hK hK2
  have HH : Hid (Own w0 w (RSX b2 σ.S x :: Store b σ K :: l)) := hH
  clear hH
  obtain ⟨IL, hIL⟩ : ∃ I, I = σ.S.list := ⟨_, rfl⟩
  simp only [← hIL] at HRL HLI HLN HEL HEN HLB HAT hn24 ⊢
  generalize σ.S.room = rm at *
  generalize hln : IL.length = n at *
  have HN : Hid (IL.length = n) := hln
  have hnn : ((n : Int) != (n : Int)) = false := by simp
  have hrr : ((rm : Int) != (rm : Int)) = false := by simp
  clear hln hIL HH
  go_enter Tryz.func22, Tryz.ntmps22
  go_wp2_with fail
  refine HRL.out.mono ?_
  rintro e w1 ⟨va, vc, rfl, hO⟩
  have H1 : Hid (Own w0 w1 (Store b σ K :: Row 32 1 (.slice va n vc) n (irow .u32 IL) :: RSX b2 σ.S x :: l)) := hO.three
  clear hO HRL q0
  go_wp2_with fail
  refine (HLI.out _ _ H1.out).mono ?_
  rintro e w2 ⟨la, lc, rfl, hO⟩
  have h21 := hO
  have h22 := hO.three
  rw [← HN.out] at h21 h22
  have HSM : Hid (Calls _ _ _ _ _) := same_ok w2 (.slice la IL.length lc) (.slice va IL.length vc) IL (Own.nums h21) (Own.nums h22) (by rw [HN.out]; omega)
  rw [HN.out] at HSM
  clear h21 h22
  have H2 : Hid (Own w0 w2 _) := hO.tail
  clear hO H1 HLI
  go_wp2_with fail
  refine HSM.out.mono ?_
  rintro e w3 ⟨rfl, hf3⟩
  have H3 : Hid (Own w0 w3 _) := H2.out.quiet hf3
  clear hf3 HSM H2
  go_wp2_with fail
  refine (HLN.out _ _ H3.out).mono ?_
  rintro e w4 ⟨rfl, hO⟩
  have H4 : Hid (Own w0 w4 _) := hO
  clear hO H3 HLN
  go_wp2_with fail
  refine (HRM.out _ _ H4.out).mono ?_
  rintro e w5 ⟨rfl, hO⟩
  have H5 : Hid (Own w0 w5 _) := hO.three
  clear hO H4 HRM
  go_wp2_with fail
  refine (HEL.out _ _ H5.out).mono ?_
  rintro e w6 ⟨ea, ec, rfl, hO⟩
  have H6 : Hid (Own w0 w6 (Row 94 2 (.slice ea n ec) n (cat rcells (IL.map (x.at σ))) :: Row 32 1 (.slice va n vc) n (irow .u32 IL) :: RSX b2 σ.S x :: Store b σ K :: l)) := hO.four.two
  clear hO H5 HEL hrr
  go_wp2
  go_loopw [68] (fun cv wr => ∃ j : Nat, j ≤ n ∧ cv = .int .i64 j ∧ Own w0 wr (Row 94 2 (.slice ea n ec) n (cat rcells (IL.map (x.at σ))) :: Row 32 1 (.slice va n vc) n (irow .u32 IL) :: RSX b2 σ.S x :: Store b σ K :: l)) (fun cv _ => n - (intOf cv).toNat)
  case atStart => exact ⟨0, Nat.zero_le _, rfl, H6.out⟩
  case round =>
    obtain ⟨j, hj, rfl, hO⟩ := hrel
    have HO : Hid (Own w0 wr _) := hO
    clear H6
    by_cases hlt : j < n
    · have hlt' : (j : Int) < (n : Int) := by omega
      obtain ⟨id, hid⟩ : ∃ id, IL[j]? = some id := ⟨_, List.getElem?_eq_getElem (by rw [HN.out]; exact hlt)⟩
      obtain ⟨g, cp, hv, _⟩ := row_shape hO.row (by omega)
      have hla := (Value.slice.inj hv).1
      subst hla
      obtain ⟨g', cp', hv', _⟩ := row_shape hO.two.row (by omega)
      have hla' := (Value.slice.inj hv').1
      subst hla'
      obtain ⟨a1, a2, a3, a4⟩ := HAT.out j id hid
      have hml : (IL.map (x.at σ)).length = n := by rw [List.length_map, HN.out]
      have hO' := hO
      rw [← hml] at hO'
      obtain ⟨c0, c1⟩ := ecell hO' j (x.at σ id) (by rw [List.getElem?_map, hid]; rfl)
      rw [a1] at c0
      rw [a2] at c1
      have HI0 : Hid (∀ w' l', Own w0 w' (Row 32 1 (.slice (some ⟨g', 0, none⟩) n vc) n (irow .u32 IL) :: l') → w'.cell? ⟨g', j, none⟩ = some (.int .u32 (id : Int))) := fun w' l' h' => by rw [h'.row.cellAt _ (by omega), getElem?_irow, hid]; rfl
      have HC : Hid (∀ w' l', Own w0 w' (RSX b2 σ.S x :: l') → Cs w' (x.at σ id).2.2.1 (σ.cps id)) := a4
      have HE : Hid (∀ w' l', Own w0 w' (Store b σ K :: l') → Calls Tryz.prog 56 #[.pointer (some ⟨b, 0, none⟩), .int .u32 (id : Int)] w' fun e w'' => ∃ ao cap, e = .returned (.tuple #[.agg #[.int .u32 (id : Int), .slice ao (σ.cps id).length cap], .int .i64 0]) ∧ Own w0 w'' (Row 48 4 (.slice ao (σ.cps id).length cap) (σ.cps id).length (ccat (σ.cps id)) :: Store b σ K :: l')) := fun w' l' h' => HEN.out w' l' j id hid h'
      have HL1 : Hid (∀ w' l', Own w0 w' (Store b σ K :: l') → Calls Tryz.prog 58 #[.pointer (some ⟨b, 0, none⟩), .int .u32 (id : Int)] w' fun e w'' => e = .returned (.bool true) ∧ Own w0 w'' (Store b σ K :: l')) := fun w' l' h' => HLB.out w' l' j id hid h'
      generalize (x.at σ id).2.2.1 = da at *
      generalize (x.at σ id).2.2.2 = dc at *
      generalize σ.cps id = C at *
      clear hO hO' hv hv' hid a1 a2 a4 hml
      generalize hcl : C.length = cl at *
      have HCL : Hid (C.length = cl) := hcl
      have hA := HO.out.allocC #[.int .u32 (id : Int), .slice da cl dc] 94
      have i0 := HI0.out _ _ hA.three
      have HEA : Hid (Calls _ _ _ _ _) := HE.out _ _ hA.five
      clear hA hcl
      go_wp2_with fail
      refine HEA.out.mono ?_
      rintro e w7 ⟨ga, gc, rfl, hO3⟩
      have hB := (hO3.allocC #[.int .u32 (id : Int), .slice ga cl gc] 94)
      have x0 := hB.cell 0
      have x1 := hB.cell 1
      have y0 := hB.four.cell 0
      have y1 := hB.four.cell 1
      simp at x0 x1 y0 y1
      have HSE : Hid (Calls _ _ _ _ _) := sameEnt_any _ id ga da cl gc dc C (Own.rcs hB.two HCL.out) (HC.out _ _ (hB.tail.tail.tail.tail.three)) HCL.out (by omega)
      have HB : Hid (Own w0 _ _) := hB
      clear hO3 hB HEA HE c0 c1 i0
      go_wp2_with fail
      refine HSE.out.mono ?_
      rintro e w8 ⟨rfl, hf8⟩
      have hO8 := HB.out.quiet hf8
      have i0 := HI0.out _ _ (hO8.tail.tail.tail.tail.two)
      have HLC : Hid (Calls _ _ _ _ _) := HL1.out _ _ hO8.three
      clear hO8 hf8 HSE HB x0 x1 y0 y1
      go_wp2_with fail
      refine HLC.out.mono ?_
      rintro e w9 ⟨rfl, hO9⟩
      have H9 : Hid (Own w0 w9 (Row 48 4 (.slice ga cl gc) cl (ccat C) :: Cells w7.heap.size #[.int .u32 (id : Int), .slice ga cl gc] 94 :: Store b σ K :: Cells wr.heap.size #[.int .u32 (id : Int), .slice da cl dc] 94 :: Row 94 2 (.slice (some ⟨g, 0, none⟩) n ec) n (cat rcells (IL.map (x.at σ))) :: Row 32 1 (.slice (some ⟨g', 0, none⟩) n vc) n (irow .u32 IL) :: RSX b2 σ.S x :: l)) := hO9.three.in23
      have z1 := hO9.two.cell 1
      simp at z1
      clear hO9 HLC i0 HL1 HI0 HC
      go_wp2
      go_loopw [102] (fun cv3 wr3 => ∃ k : Nat, k ≤ cl ∧ cv3 = .int .i64 k ∧ ∃ C' : List Cp, C'.length = cl ∧ Own w0 wr3 (Row 48 4 (.slice ga cl gc) cl (ccat C') :: Cells w7.heap.size #[.int .u32 (id : Int), .slice ga cl gc] 94 :: Store b σ K :: Cells wr.heap.size #[.int .u32 (id : Int), .slice da cl dc] 94 :: Row 94 2 (.slice (some ⟨g, 0, none⟩) n ec) n (cat rcells (IL.map (x.at σ))) :: Row 32 1 (.slice (some ⟨g', 0, none⟩) n vc) n (irow .u32 IL) :: RSX b2 σ.S x :: l)) (fun cv3 _ => cl - (intOf cv3).toNat)
      case atStart => exact ⟨0, Nat.zero_le _, rfl, C, HCL.out, H9.out⟩
      case round =>
        obtain ⟨k, hk, rfl, C', hC', hO8⟩ := hrel
        have H8 : Hid (Own w0 wr _) := hO8
        clear H9 z1
        by_cases hkn : k < cl
        · have hkn' : (k : Int) < (cl : Int) := by omega
          obtain ⟨y, hy⟩ : ∃ y, C'[k]? = some y := ⟨_, List.getElem?_eq_getElem (by omega)⟩
          obtain ⟨gl, cl', hvl, _⟩ := row_shape hO8.row (by omega)
          have hgl := (Value.slice.inj hvl).1
          subst hgl
          have f1 := hO8.row.cellAt (k * 4 + 1) (by omega)
          rw [ccat_at C' k y hy 1 (by decide)] at f1
          have f1' : World.cell? wr ⟨gl, k * 4 + 1, none⟩ = some (.int .i32 y.a) := f1
          have f2 := hO8.row.frozenAt (k * 4 + 1)
          have u1 := hO8.two.cell 1
          simp at u1
          obtain ⟨nv, hnv⟩ : ∃ nv, nv = bits .xor .i32 y.a 1 := ⟨_, rfl⟩
          have HNW : Hid (Own w0 (World.setCell wr ⟨gl, k * 4 + 1, none⟩ (.int .i32 nv)) _) := hO8.setR (k * 4 + 1) (.int .i32 nv)
          rw [← ccat_set1 C' k y nv hy] at HNW
          have HCN : Hid ((C'.set k ⟨y.k, nv, y.b, y.c⟩).length = cl) := by show _ = _; rw [List.length_set, hC']
          clear hO8 hvl hy f1
          generalize C'.set k ⟨y.k, nv, y.b, y.c⟩ = C2 at *
          generalize y.a = ya at *
          have hnv' := hnv.symm
          clear hnv
          go_wp2
          go_region
          all_goals
            go_wp2
            go_roundw
            case rel => exact ⟨k + 1, by omega, by go_num, C2, HCN.out, HNW.out.drew⟩
            case measure => simp [intOf]; omega
        · have hkn' : ¬ (k : Int) < (cl : Int) := by omega
          have HX : Hid (Own w0 wr _) := hO8.tail.tail.two.tail.back4
          have u1 := hO8.two.cell 1
          simp at u1
          clear hO8 H8
          go_wp2
          go_roundw
          case rel => exact ⟨j + 1, by omega, by go_num, HX.out⟩
          case measure => simp [intOf]; omega
    · have hlt' : ¬ (j : Int) < (n : Int) := by omega
      have HG : Hid (Calls _ _ _ _ _) := HGR.out _ _ hO.tail.tail.two
      clear hO HO HGR HAT HEN HLB
      go_wp2_with fail
      refine HG.out.mono ?_
      rintro e w7 ⟨G, ra, rc, rfl, hG, hO7⟩
      have HGA : Hid (∀ wq, Fr Nobody w7 wq → ∀ (i : Nat) y, G[i]? = some y → ∃ g, ra = some ⟨g, 0, none⟩ ∧ wq.cell? ⟨g, i * 2, none⟩ = some (.int .u8 (y.m : Int)) ∧ wq.cell? ⟨g, i * 2 + 1, none⟩ = some (.slice y.ao y.I.length y.cap)) := fun wq hf i y hy => gcell (hO7.quiet hf) i y hy
      have HGI : Hid (∀ wq, Fr Nobody w7 wq → ∀ (i : Nat) y, G[i]? = some y → ∀ (t v : Nat), y.I[t]? = some v → ∃ g, y.ao = some ⟨g, 0, none⟩ ∧ wq.cell? ⟨g, t, none⟩ = some (.int .u32 (v : Int))) := fun wq hf i y hy t v hv => gr_cell (hO7.quiet hf).tail hy hv
      have HRX : Hid (∀ wq, Fr Nobody w7 wq → Own w0 wq (RSX b2 σ.S x :: Store b σ K :: l)) := fun wq hf => (Own.dropl _ (hO7.quiet hf).tail).two
      have HGE : Hid (∀ (i : Nat) y, G[i]? = some y → (σ.grs 64)[i]? = some (y.m, y.I)) := by
        intro i y hy
        rw [← hG, List.getElem?_map, hy]
        rfl
      have HGL : Hid ((σ.grs 64).length = G.length) := by show _ = _; rw [← hG, List.length_map]
      have HG0 : Hid ((σ.grs 0).length = 0) := rfl
      clear hO7 hG HG
      generalize hgl : G.length = gl at *
      have HGN : Hid (G.length = gl) := hgl
      clear hgl
      have hgl64 : gl ≤ 64 := by
        have := HGL.out
        rw [← this]
        unfold Sto.grs
        rw [List.length_map]
        exact Nat.le_trans (List.length_filter_le _ _) (by simp)
      go_wp2
      go_loopw [12, 121] (fun v12 v121 wr2 => ∃ i nn : Nat, i ≤ gl ∧ nn ≤ 64 ∧ v12 = .int .i64 nn ∧ v121 = .int .i64 i ∧ (σ.grs nn).length = i ∧ Fr Nobody w7 wr2) (fun _ v121 _ => gl - (intOf v121).toNat)
      case atStart => exact ⟨0, 0, Nat.zero_le _, Nat.zero_le _, rfl, rfl, HG0.out, Fr.refl _ _⟩
      case round =>
        obtain ⟨i, nn, hi, hnn64, rfl, rfl, hgi, hfr⟩ := hrel
        have HFR : Hid (Fr Nobody w7 wr) := hfr
        have HGN2 : Hid ((σ.grs nn).length = i) := hgi
        clear hfr hgi
        by_cases hil : i < gl
        · have hil' : (i : Int) < (gl : Int) := by omega
          obtain ⟨y, hy⟩ : ∃ y, G[i]? = some y := ⟨_, List.getElem?_eq_getElem (by rw [HGN.out]; exact hil)⟩
          obtain ⟨gg, hra, g0, g1⟩ := HGA.out wr HFR.out i y hy
          subst hra
          have HYE := HGE.out i y hy
          have HYE : Hid ((σ.grs 64)[i]? = some (y.m, y.I)) := HYE
          have HYI : Hid (∀ wq, Fr Nobody w7 wq → ∀ (t v : Nat), y.I[t]? = some v → ∃ g, y.ao = some ⟨g, 0, none⟩ ∧ wq.cell? ⟨g, t, none⟩ = some (.int .u32 (v : Int))) := fun wq hf => HGI.out wq hf i y hy
          clear hy
          obtain ⟨ym, yI, ya, yc⟩ := y
          simp only at g0 g1 HYE HYI
          generalize hyl : yI.length = yl at *
          have HYL : Hid (yI.length = yl) := hyl
          clear hyl
          have HFA : Hid (Fr Nobody w7 (wr.alloc (.cells #[.int .u8 (ym : Int), .slice ya yl yc] 63))) := HFR.out.alloc _
          have HB0 : Hid (∀ wq, Fr Nobody (wr.alloc (.cells #[.int .u8 (ym : Int), .slice ya yl yc] 63)) wq → wq.cell? ⟨wr.heap.size, 0, none⟩ = some (.int .u8 (ym : Int)) ∧ wq.cell? ⟨wr.heap.size, 1, none⟩ = some (.slice ya yl yc)) := by
            intro wq hf
            have e0 : (wr.alloc (.cells #[.int .u8 (ym : Int), .slice ya yl yc] 63)).cell? ⟨wr.heap.size, 0, none⟩ = some (.int .u8 (ym : Int)) := by simp
            have e1 : (wr.alloc (.cells #[.int .u8 (ym : Int), .slice ya yl yc] 63)).cell? ⟨wr.heap.size, 1, none⟩ = some (.slice ya yl yc) := by simp
            exact ⟨(hf.cell (p := ⟨wr.heap.size, 0, none⟩) (World.block_lt_of_cell? _ _ e0) id).trans e0, (hf.cell (p := ⟨wr.heap.size, 1, none⟩) (World.block_lt_of_cell? _ _ e1) id).trans e1⟩
          obtain ⟨wA, hwA⟩ : ∃ wA, wA = wr.alloc (.cells #[.int .u8 (ym : Int), .slice ya yl yc] 63) := ⟨_, rfl⟩
          rw [← hwA] at HFA HB0
          have HWA : Hid (wA = wr.alloc (.cells #[.int .u8 (ym : Int), .slice ya yl yc] 63)) := hwA
          clear hwA HFR
          go_wp2
          rw [← HWA.out]
          generalize wr.heap.size = BG at *
          go_loopw [12] (fun v12 wr2 => ∃ nn : Nat, nn ≤ 64 ∧ v12 = .int .i64 nn ∧ (σ.grs nn).length = i ∧ Fr Nobody wA wr2) (fun v12 _ => 64 - (intOf v12).toNat)
          case atStart => exact ⟨nn, hnn64, rfl, HGN2.out, Fr.refl _ _⟩
          case round =>
            clear HGN2 hnn64 g0 g1 HWA
            obtain ⟨nn, hnn64, rfl, hgi, hfr⟩ := hrel
            have hf7 := HFA.out.trans hfr
            obtain ⟨k0, k1⟩ := HB0.out wr hfr
            by_cases hn6 : nn < 64
            · have hn6' : (nn : Int) < 64 := by omega
              by_cases hT : σ.T nn = []
              · obtain ⟨ao, cap, tb⟩ := HTB.out _ _ nn hn6 (HRX.out wr hf7)
                rw [hT] at tb
                simp only [List.length_nil] at tb
                have HX : Hid ((σ.grs (nn + 1)).length = i ∧ Fr Nobody wA wr) := ⟨by rw [Sto.grs_nil hT]; exact hgi, hfr⟩
                clear hfr hgi hT hf7
                go_wp2
                go_roundw
                case rel => exact ⟨nn + 1, by omega, by go_num, HX.out.1, HX.out.2⟩
                case measure => simp [intOf]; omega
              · obtain ⟨hat, hsucc⟩ := Sto.grs_at hn6 hT hgi
                have hye := HYE.out
                rw [hat] at hye
                simp only [Option.some.injEq, Prod.mk.injEq] at hye
                obtain ⟨hy1, hy2⟩ := hye
                subst hy1
                have htl : yl = (σ.T nn).length := by rw [← HYL.out, ← hy2]; unfold ids; rw [List.length_map]
                have htp : 0 < yl := by rw [htl]; exact List.length_pos_iff.2 hT
                have hTL := HTL.out nn hn6
                rw [← htl] at hTL
                obtain ⟨id0, hid0⟩ : ∃ id0, (ids (σ.T nn))[0]? = some id0 := ⟨_, List.getElem?_eq_getElem (by rw [hy2, HYL.out]; exact htp)⟩
                obtain ⟨gT, cT, _, tbA, _⟩ := HTW.out _ _ nn hn6 0 id0 hid0 (HRX.out wA HFA.out)
                rw [← htl] at tbA
                have HTC : Hid (∀ wq, Fr Nobody wA wq → wq.cell? ⟨b2, 1 + nn * 2 + 1, none⟩ = some (.slice (some ⟨gT, 0, none⟩) yl cT)) := fun wq hf => (hf.cell (p := ⟨b2, 1 + nn * 2 + 1, none⟩) (World.block_lt_of_cell? _ _ tbA) id).trans tbA
                have HTK : Hid (∀ wq, Fr Nobody wA wq → ∀ (k v : Nat), yI[k]? = some v → wq.cell? ⟨gT, k * 2, none⟩ = some (.int .u32 (v : Int)) ∧ ∃ dv : Option Addr × Nat × Nat, wq.cell? ⟨gT, k * 2 + 1, none⟩ = some (.slice dv.1 dv.2.1 dv.2.2)) := by
                  intro wq hf k v hv
                  rw [← hy2] at hv
                  obtain ⟨g3, c3, dv, q0, q1, q2⟩ := HTW.out _ _ nn hn6 k v hv (HRX.out wq (HFA.out.trans hf))
                  rw [HTC.out wq hf] at q0
                  simp only [Option.some.injEq, Value.slice.injEq, Addr.mk.injEq] at q0
                  obtain ⟨⟨rfl, _⟩, _⟩ := q0
                  exact ⟨q1, dv, q2⟩
                have HNX : Hid ((σ.grs (nn + 1)).length = i + 1) := hsucc
                have tb := HTC.out wr hfr
                have HFQ : Hid (Fr Nobody wA wr) := hfr
                have h0 : ((yl : Int) == 0) = false := by rw [beq_eq_false_iff_ne]; omega
                have hn64 : ((nn : Int) == 64) = false := by rw [beq_eq_false_iff_ne]; omega
                have hm1 : ((nn : Int) != (nn : Int)) = false := by simp
                have hm2 : ((yl : Int) != (yl : Int)) = false := by simp
                have hwb : IntKind.i64.wrap (nn : Int) = (nn : Int) := by rw [IntKind.wrap_i64]; omega
                have hwa : (IntKind.i64.wrap (nn : Int) != (nn : Int)) = false := by rw [hwb]; exact hm1
                clear hfr hgi hT hf7 hat hsucc hy2 htl hid0 tbA HYE
                go_wp2_with fail
                go_region_held3 (fun w' : World => w'.cell? ⟨BG, 0, none⟩ = some (.int .u8 (nn : Int)) ∧ w'.cell? ⟨BG, 1, none⟩ = some (.slice ya yl yc) ∧ w'.cell? ⟨b2, 1 + nn * 2 + 1, none⟩ = some (.slice (some ⟨gT, 0, none⟩) yl cT)) (go_keep) (fail)
                all_goals
                  go_wp2
                  go_loopw [171] (fun v171 wr2 => ∃ k : Nat, k ≤ yl ∧ v171 = .int .i64 k ∧ Fr Nobody wA wr2) (fun v171 _ => yl - (intOf v171).toNat)
                  case atStart => exact ⟨0, Nat.zero_le _, rfl, HFQ.out.drew⟩
                  case round =>
                    obtain ⟨k, hk, rfl, hfk⟩ := hrel
                    clear HFQ tb k0 k1
                    by_cases hky : k < yl
                    · have hky' : (k : Int) < (yl : Int) := by omega
                      obtain ⟨v, hv⟩ : ∃ v, yI[k]? = some v := ⟨_, List.getElem?_eq_getElem (by rw [HYL.out]; exact hky)⟩
                      obtain ⟨t0, ⟨d1, d2, d3⟩, t1⟩ := HTK.out wr hfk k v hv
                      simp only at t1
                      have hf8 : Fr Nobody wA (wr.alloc (.cells #[.int .u32 (v : Int), .slice d1 d2 d3] 94)) := hfk.alloc _
                      obtain ⟨k0, k1⟩ := HB0.out _ hf8
                      obtain ⟨gI, hgI, i0⟩ := HYI.out _ (HFA.out.trans hf8) k v hv
                      subst hgI
                      have hvv : ((v : Int) != (v : Int)) = false := by simp
                      have HX : Hid (Fr Nobody wA (wr.alloc (.cells #[.int .u32 (v : Int), .slice d1 d2 d3] 94))) := hf8
                      clear hfk hf8 hv
                      go_wp2_with fail
                      go_region_held3 (fun w' : World => w'.cell? ⟨BG, 1, none⟩ = some (.slice (some ⟨gI, 0, none⟩) yl yc) ∧ w'.cell? ⟨gI, k, none⟩ = some (.int .u32 (v : Int)) ∧ w'.cell? ⟨wr.heap.size, 0, none⟩ = some (.int .u32 (v : Int))) (go_keep) (fail)
                      all_goals
                        go_wp2
                        go_roundw
                        case rel => exact ⟨k + 1, by omega, by go_num, HX.out.drew⟩
                        case measure => simp [intOf]; omega
                    · have hky' : ¬ (k : Int) < (yl : Int) := by omega
                      have HX : Hid (Fr Nobody w7 wr) := HFA.out.trans hfk
                      clear hfk
                      go_wp2
                      go_roundw
                      case rel => exact ⟨i + 1, nn + 1, by omega, by omega, by go_num, by go_num, HNX.out, HX.out⟩
                      case measure => simp [intOf]; omega
            · have hn64 : nn = 64 := by omega
              subst hn64
              rw [HGL.out] at hgi
              exact absurd hgi (by omega)
        · have hil' : ¬ (i : Int) < (gl : Int) := by omega
          have hie : i = gl := by omega
          subst hie
          go_wp2
          go_loopw [12] (fun v12 wr2 => ∃ nn : Nat, nn ≤ 64 ∧ v12 = .int .i64 nn ∧ (σ.grs nn).length = i ∧ Fr Nobody w7 wr2) (fun v12 _ => 64 - (intOf v12).toNat)
          case atStart => exact ⟨nn, hnn64, rfl, HGN2.out, HFR.out⟩
          case round =>
            clear HGN2 hnn64 HFR
            obtain ⟨nn, hnn64, rfl, hgi, hfr⟩ := hrel
            by_cases hn6 : nn < 64
            · have hn6' : (nn : Int) < 64 := by omega
              have hT : σ.T nn = [] := Sto.grs_end hn6 (by rw [hgi, HGL.out])
              have hrx := HRX.out wr hfr
              obtain ⟨ao, cap, tb⟩ := HTB.out _ _ nn hn6 hrx
              rw [hT] at tb
              simp only [List.length_nil] at tb
              have HX : Hid ((σ.grs (nn + 1)).length = i ∧ Fr Nobody w7 wr) := ⟨by rw [Sto.grs_nil hT]; exact hgi, hfr⟩
              clear hrx hfr hgi hT
              go_wp2
              go_roundw
              case rel => exact ⟨nn + 1, by omega, by go_num, HX.out.1, HX.out.2⟩
              case measure => simp [intOf]; omega
            · have hn6' : ¬ (nn : Int) < 64 := by omega
              have HX : Hid (Own w0 wr (Store b σ K :: RSX b2 σ.S x :: l)) := (HRX.out wr hfr).two
              clear hfr hgi
              go_wp2
              go_ret
              exact ⟨rfl, HX.out⟩
end Go.Proofs.YtibdgdbkdnifbaaGreatDoor
