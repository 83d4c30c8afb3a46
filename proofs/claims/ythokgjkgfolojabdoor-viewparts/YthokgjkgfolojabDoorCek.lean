/-
  The grid: Box and At.
-/
import Derived.Test.YthokgjkgfolojabDoorCei
import Derived.Test.YthokgjkgfolojabDoorCej
import Derived.Test.YthokgjkgfolojabDoorCeh
import Derived.Lib.MinMax
namespace Go.Proofs.YthokgjkgfolojabDoor
open Go.RowKit Go.Maps
set_option linter.unusedVariables false
set_option maxRecDepth 100000

/-- is a cell in a box? -/
def inB (x0 y0 x1 y1 : Int) (c : Cll) : Bool := decide (x0 ≤ c.1) && decide (c.1 ≤ x1) && decide (y0 ≤ c.2) && decide (c.2 ≤ y1)
/-- who is in a box -/
def boxL (L : List Spt) (x0 y0 x1 y1 : Int) : List Nat := (L.filter (fun s => inB x0 y0 x1 y1 (scl s))).map (·.1)
theorem box_inc {L : List Spt} (h : Rise L) (x0 y0 x1 y1 : Int) : (boxL L x0 y0 x1 y1).Pairwise (· < ·) := by
  unfold boxL
  rw [List.pairwise_map]
  exact List.Pairwise.filter _ h
theorem mem_box {L : List Spt} (h : Rise L) {x0 y0 x1 y1 : Int} {id : Nat} : id ∈ boxL L x0 y0 x1 y1 ↔ ∃ c, hom L id = some c ∧ inB x0 y0 x1 y1 c = true := by
  unfold boxL
  rw [List.mem_map]
  constructor
  · rintro ⟨s, hs, rfl⟩
    obtain ⟨h1, h2⟩ := List.mem_filter.1 hs
    exact ⟨scl s, (hom_some h).2 ⟨s, h1, rfl, rfl⟩, h2⟩
  · rintro ⟨c, hc, h2⟩
    obtain ⟨s, hs, rfl, rfl⟩ := (hom_some h).1 hc
    exact ⟨s, List.mem_filter.2 ⟨hs, h2⟩, rfl⟩
/-- all are within the world -/
def GIn (L : List Spt) : Prop := ∀ s ∈ L, inW s.2.1 s.2.2 = true
theorem GIn.cell {L : List Spt} (h : GIn L) (hL : Rise L) {id : Nat} {c : Cll} (hc : hom L id = some c) : -32 ≤ c.1 ∧ c.1 ≤ 31 ∧ -32 ≤ c.2 ∧ c.2 ≤ 31 := by
  obtain ⟨s, hs, rfl, rfl⟩ := (hom_some hL).1 hc
  have := inW_iff.1 (h s hs)
  unfold scl cel
  simp only
  omega
/-- whom one has behind the columns ahead of x, and in column x ahead of y -/
def Got (L : List Spt) (xl yl yh x y : Int) (R : List Nat) : Prop := R.Nodup ∧ ∀ id, id ∈ R ↔ ∃ c, hom L id = some c ∧ ((xl ≤ c.1 ∧ c.1 < x ∧ yl ≤ c.2 ∧ c.2 ≤ yh) ∨ (c.1 = x ∧ yl ≤ c.2 ∧ c.2 < y))
theorem Got.start (L : List Spt) (xl yl yh : Int) : Got L xl yl yh xl yl [] := by
  refine ⟨List.nodup_nil, fun id => ⟨fun h => (by cases h), ?_⟩⟩
  rintro ⟨c, _, h⟩
  omega
theorem Got.step {L : List Spt} (hL : Rise L) {xl yl yh x y : Int} {R xs : List Nat} (h : Got L xl yl yh x y R) (hy : yl ≤ y) (hx : xl ≤ x) (hw : whl (crd L (x, y)) xs) : Got L xl yl yh x (y + 1) (R ++ xs) := by
  refine ⟨List.nodup_append.2 ⟨h.1, hw.1, ?_⟩, fun id => ?_⟩
  · intro a ha b hb e
    subst e
    obtain ⟨c, hc, h1⟩ := (h.2 a).1 ha
    have h2 := (mem_crd_hom hL).1 ((hw.2 a).1 hb)
    rw [hc] at h2
    cases h2
    simp only at h1
    omega
  · rw [List.mem_append, h.2, hw.2, mem_crd_hom hL]
    constructor
    · rintro (⟨c, hc, h1⟩ | h1)
      · exact ⟨c, hc, by omega⟩
      · exact ⟨_, h1, .inr ⟨rfl, hy, by simp only; omega⟩⟩
    · rintro ⟨c, hc, h1⟩
      by_cases e : c = (x, y)
      · subst e; exact .inr hc
      · refine .inl ⟨c, hc, ?_⟩
        have : ¬ (c.1 = x ∧ c.2 = y) := fun q => e (Prod.ext q.1 q.2)
        omega
theorem Got.col {L : List Spt} {xl yl yh x y : Int} {R : List Nat} (h : Got L xl yl yh x y R) (hy : yh < y) (hx : xl ≤ x) (hy2 : y ≤ yh + 1 ∨ y = yl) : Got L xl yl yh (x + 1) yl R := by
  refine ⟨h.1, fun id => ?_⟩
  rw [h.2]
  constructor
  · rintro ⟨c, hc, h1⟩
    exact ⟨c, hc, by omega⟩
  · rintro ⟨c, hc, h1⟩
    exact ⟨c, hc, by omega⟩
theorem Got.len {L : List Spt} (hL : Rise L) {xl yl yh x y : Int} {R : List Nat} (h : Got L xl yl yh x y R) : R.length ≤ L.length := by
  have := sub_len2 (A := R) (B := L.map (·.1)) h.1 (fun id hid => by
    obtain ⟨c, hc, _⟩ := (h.2 id).1 hid
    obtain ⟨s, hs, rfl, _⟩ := (hom_some hL).1 hc
    exact List.mem_map_of_mem hs)
  simpa using this
/-- one cell's crowd is put behind what one has -/
theorem add_cell (w0 w : World) (l : List Thing) (g K b1 b2 : Nat) (M : List (Cll × Nat)) (L : List Spt) (hL : GOk L) (nd : (M.map (·.1)).Nodup) (mem : ∀ c, c ∈ M.map (·.1) ↔ crd L c ≠ []) (x y : Int) (R : List Nat) (ao : Option Addr) (cap : Nat)
    (h : Own w0 w (Row 29 1 (.slice ao R.length cap) R.length (irow .u32 R) :: Cells g #[.map (some b1), .map (some b2)] 51 :: GMap clK b1 K M.length (cmap M) :: GMap idK b2 K L.length (hmap L) :: (crowds M L K ++ l))) (hb : R.length + L.length ≤ 50000) (p : Option Nat) (hp : lkp M (x, y) = p) :
    Calls Tryd.prog 29 #[.map p] w fun e w' => ∃ B, e = .returned (.func (.func 34) #[] #[.pointer (some ⟨B, 0, none⟩)]) ∧
      Calls Tryd.prog 28 #[.slice ao R.length cap, .func (.func 34) #[] #[.pointer (some ⟨B, 0, none⟩)]] w' fun e w'' => ∃ (xs : List Nat) (ao' : Option Addr) (cap' : Nat), whl (crd L (x, y)) xs ∧ e = .returned (.slice ao' (R ++ xs).length cap') ∧ Own w0 w'' (Row 29 1 (.slice ao' (R ++ xs).length cap') (R ++ xs).length (irow .u32 (R ++ xs)) :: Grid g L K :: l) := by
  have hlen : (crd L (x, y)).length ≤ L.length := by unfold crd; rw [List.length_map]; exact List.length_filter_le _ _
  by_cases hcr : crd L (x, y) = []
  · have hn : lkp M (x, y) = none := lkp_none (fun hq => (mem _).1 hq hcr)
    rw [hn] at hp
    subst hp
    refine (keys_ok w0 w _ h none).mono ?_
    rintro e w' ⟨rfl, hO, _⟩
    refine ⟨_, rfl, ?_⟩
    refine (appseq_ok w0 w' _ [Cells w.heap.size #[.map none] 61] w.heap.size [] R ao cap (fun Z Y => keys_nil w0 w.heap.size Z Y) hO.two (by simp; omega)).mono ?_
    rintro e w'' ⟨xs, ao', cap', hw, rfl, hO2⟩
    refine ⟨xs, ao', cap', by rw [hcr]; exact hw, rfl, ?_⟩
    have h3 : Own w0 w'' (Row 29 1 (.slice ao' (R ++ xs).length cap') (R ++ xs).length (irow .u32 (R ++ xs)) :: Cells g #[.map (some b1), .map (some b2)] 51 :: GMap clK b1 K M.length (cmap M) :: GMap idK b2 K L.length (hmap L) :: (crowds M L K ++ l)) := hO2.two.tail
    have h4 : Own w0 w'' (Cells g #[.map (some b1), .map (some b2)] 51 :: GMap clK b1 K M.length (cmap M) :: GMap idK b2 K L.length (hmap L) :: (crowds M L K ++ Row 29 1 (.slice ao' (R ++ xs).length cap') (R ++ xs).length (irow .u32 (R ++ xs)) :: l)) :=
      Own.sink (l := Cells g #[.map (some b1), .map (some b2)] 51 :: GMap clK b1 K M.length (cmap M) :: GMap idK b2 K L.length (hmap L) :: crowds M L K) (m := l) h3
    exact (Grid.shut nd mem h4).two
  · obtain ⟨M1, bl, M2, rfl⟩ := split_at ((mem _).2 hcr)
    have hn : lkp (M1 ++ ((x, y), bl) :: M2) (x, y) = some bl := by rw [lkp_at nd, if_pos rfl]
    rw [hn] at hp
    subst hp
    rw [crowds_at, List.append_assoc, List.cons_append] at h
    have h1 := Own.to4 h
    obtain ⟨o, hOb, ho⟩ := Own.gmObj h1
    refine (keys_ok w0 w _ hOb (some bl)).mono ?_
    rintro e w' ⟨rfl, hO, _⟩
    refine ⟨_, rfl, ?_⟩
    have h32 : ∀ z ∈ crd L (x, y), z < 4294967296 := fun z hz => by
      obtain ⟨s, hs, rfl, _⟩ := mem_crd.1 hz
      exact (hL.2 s hs).1
    refine (appseq_ok w0 w' _ [Cells w.heap.size #[.map (some bl)] 61, Objt bl o] w.heap.size (crd L (x, y)) R ao cap (fun Z Y => keys_seq w0 bl K (crd L (x, y)) o ho h32 w.heap.size Z Y) (show Own w0 w' (_ :: ([_, _] ++ _)) from hO.three) (by omega)).mono ?_
    rintro e w'' ⟨xs, ao', cap', hw, rfl, hO2⟩
    refine ⟨xs, ao', cap', hw, rfl, ?_⟩
    have h3 := ho w0 w'' _ (Own.two (Own.tail (Own.two hO2)))
    have h4 : Own w0 w'' (Crw bl K (crd L (x, y)) :: Row 29 1 (.slice ao' (R ++ xs).length cap') (R ++ xs).length (irow .u32 (R ++ xs)) :: Cells g #[.map (some b1), .map (some b2)] 51 :: GMap clK b1 K (M1 ++ ((x, y), bl) :: M2).length (cmap (M1 ++ ((x, y), bl) :: M2)) :: GMap idK b2 K L.length (hmap L) :: (crowds M1 L K ++ (crowds M2 L K ++ l))) := h3
    have h5 := Own.of4 h4
    have h6 : Own w0 w'' (Cells g #[.map (some b1), .map (some b2)] 51 :: GMap clK b1 K (M1 ++ ((x, y), bl) :: M2).length (cmap (M1 ++ ((x, y), bl) :: M2)) :: GMap idK b2 K L.length (hmap L) :: (crowds (M1 ++ ((x, y), bl) :: M2) L K ++ Row 29 1 (.slice ao' (R ++ xs).length cap') (R ++ xs).length (irow .u32 (R ++ xs)) :: l)) := by
      refine Own.sink (l := Cells g #[.map (some b1), .map (some b2)] 51 :: GMap clK b1 K (M1 ++ ((x, y), bl) :: M2).length (cmap (M1 ++ ((x, y), bl) :: M2)) :: GMap idK b2 K L.length (hmap L) :: crowds (M1 ++ ((x, y), bl) :: M2) L K) (m := l) ?_
      rw [crowds_at, List.cons_append, List.cons_append, List.cons_append, List.append_assoc, List.cons_append]
      exact h5
    exact (Grid.shut nd mem h6).two
set_option maxHeartbeats 8000000 in
theorem gbox (w0 w : World) (l : List Thing) (g K : Nat) (L : List Spt) (h : Own w0 w (Grid g L K :: l)) (hL : GOk L) (hI : GIn L) (hn : L.length < 256) (x0 y0 x1 y1 : Int) :
    Calls Tryd.prog 22 #[.pointer (some ⟨g, 0, none⟩), .int .i64 x0, .int .i64 y0, .int .i64 x1, .int .i64 y1] w fun e w' => ∃ (ao : Option Addr) (cap : Nat), e = .returned (.slice ao (boxL L x0 y0 x1 y1).length cap) ∧ Own w0 w' (Row 29 1 (.slice ao (boxL L x0 y0 x1 y1).length cap) (boxL L x0 y0 x1 y1).length (irow .u32 (boxL L x0 y0 x1 y1)) :: Grid g L K :: l) := by
  obtain ⟨xl, hxl⟩ : ∃ z, max x0 (-32) = z := ⟨_, rfl⟩
  obtain ⟨xh, hxh⟩ : ∃ z, min x1 31 = z := ⟨_, rfl⟩
  obtain ⟨yl, hyl⟩ : ∃ z, max y0 (-32) = z := ⟨_, rfl⟩
  obtain ⟨yh, hyh⟩ : ∃ z, min y1 31 = z := ⟨_, rfl⟩
  have bxl : -32 ≤ xl := by omega
  have bxh : xh ≤ 31 := by omega
  have byl : -32 ≤ yl := by omega
  have byh : yh ≤ 31 := by omega
  have HBX : Hid (∀ c : Cll, (-32 ≤ c.1 ∧ c.1 ≤ 31 ∧ -32 ≤ c.2 ∧ c.2 ≤ 31) → (inB x0 y0 x1 y1 c = true ↔ (xl ≤ c.1 ∧ c.1 ≤ xh ∧ yl ≤ c.2 ∧ c.2 ≤ yh))) := by
    intro c hc
    simp only [inB, Bool.and_eq_true, decide_eq_true_eq]
    omega
  have H : Hid (Own w0 w (Grid g L K :: l)) := h
  have HL : Hid (GOk L) := hL
  have HI : Hid (GIn L) := hI
  clear h hL hI
  go_enter Tryd.func22, Tryd.ntmps22
  go_wp2
  go_loopw [11, 12] (fun vl vx wr => ∃ (x : Int) (R : List Nat) (ao : Option Addr) (cap : Nat), vl = .slice ao R.length cap ∧ vx = .int .i64 x ∧ xl ≤ x ∧ (x ≤ xh + 1 ∨ x = xl) ∧ Got L xl yl yh x yl R ∧ Own w0 wr (Row 29 1 (.slice ao R.length cap) R.length (irow .u32 R) :: Grid g L K :: l)) (fun _ vx _ => (xh + 1 - iOf vx).toNat)
  case atStart => exact ⟨xl, [], none, 0, rfl, rfl, Int.le_refl _, .inr rfl, Got.start L xl yl yh, H.out.nilRow _ _⟩
  case round =>
    obtain ⟨x, R, ao, cap, rfl, rfl, hx1, hx2, hG, hO⟩ := hrel
    have HO : Hid (Own w0 wr _) := hO
    have HG : Hid (Got L xl yl yh x yl R) := hG
    have hRl := hG.len HL.out.1
    have HRL : Hid (R.length ≤ L.length) := hRl
    clear hO hG H
    by_cases hx : x ≤ xh
    · go_wp2
      go_loopw [11, 13] (fun vl vy wr => ∃ (y : Int) (R : List Nat) (ao : Option Addr) (cap : Nat), vl = .slice ao R.length cap ∧ vy = .int .i64 y ∧ yl ≤ y ∧ (y ≤ yh + 1 ∨ y = yl) ∧ Got L xl yl yh x y R ∧ Own w0 wr (Row 29 1 (.slice ao R.length cap) R.length (irow .u32 R) :: Grid g L K :: l)) (fun _ vy _ => (yh + 1 - iOf vy).toNat)
      case atStart => exact ⟨yl, R, ao, cap, rfl, rfl, Int.le_refl _, .inr rfl, HG.out, HO.out⟩
      case round =>
        obtain ⟨y, R2, ao2, cap2, rfl, rfl, hy1, hy2, hG2, hO2⟩ := hrel
        have HG2 : Hid (Got L xl yl yh x y R2) := hG2
        have hRl2 := hG2.len HL.out.1
        clear HO HG HRL hRl
        by_cases hy : y ≤ yh
        · have hO3 := hO2.two
          obtain ⟨b1, b2, M, nd, mem, hO4⟩ := Grid.open hO3
          have q0 := hO4.cell 0
          simp at q0
          have hcok : COk (x, y) := by unfold COk J64; constructor <;> (simp only; omega)
          obtain ⟨p, hp⟩ : ∃ p, lkp M (x, y) = p := ⟨_, rfl⟩
          have hlk : (Instr.lookup 48 (.map (some b1)) (.agg #[.int .i64 x, .int .i64 y]) false).run Tryd.prog wr = .ok (.map p) wr := by
            have q := hO4.two.gmAt Tryd.underlying48 (zeroCrw _) (x, y) hcok
            have e : ((cmap M (x, y)).getD (.map none)) = .map p := by
              unfold cmap
              rw [hp]
              cases p <;> rfl
            rw [e] at q
            exact q
          have hO5 : Own w0 wr (Row 29 1 (.slice ao2 R2.length cap2) R2.length (irow .u32 R2) :: Cells g #[.map (some b1), .map (some b2)] 51 :: GMap clK b1 K M.length (cmap M) :: GMap idK b2 K L.length (hmap L) :: (crowds M L K ++ l)) :=
            Own.lift (l := Cells g #[.map (some b1), .map (some b2)] 51 :: GMap clK b1 K M.length (cmap M) :: GMap idK b2 K L.length (hmap L) :: crowds M L K) (m := l) hO4
          have HAC : Hid (Calls _ _ _ _ _) := add_cell w0 wr l g K b1 b2 M L HL.out nd mem x y R2 ao2 cap2 hO5 (by omega) p hp
          clear hO2 hO3 hO4 hO5 nd mem hp hG2 hcok
          generalize hn2 : R2.length = n2 at *
          have HN2 : Hid (R2.length = n2) := hn2
          clear hn2
          go_wp2_with fail
          refine HAC.out.mono ?_
          rintro e w2 ⟨B, rfl, hCA⟩
          have HCA : Hid (Calls _ _ _ _ _) := hCA
          clear hCA HAC hlk q0
          go_wp2_with fail
          refine HCA.out.mono ?_
          rintro e w3 ⟨xs, ao3, cap3, hw, rfl, hO6⟩
          have HW : Hid (whl (crd L (x, y)) xs) := hw
          have HO6 : Hid (Own w0 w3 _) := hO6
          clear hO6 hw HCA
          generalize hn3 : (R2 ++ xs).length = n3 at *
          have HN3 : Hid ((R2 ++ xs).length = n3) := hn3
          clear hn3
          go_wp2
          go_roundw
          case rel =>
            refine ⟨y + 1, R2 ++ xs, ao3, cap3, by rw [HN3.out], by go_num, by omega, .inl (by omega), HG2.out.step HL.out.1 hy1 hx1 HW.out, ?_⟩
            rw [HN3.out]
            exact HO6.out
          case measure => simp [iOf]; omega
        · have hy' : ¬ y ≤ yh := hy
          have HO2 : Hid (Own w0 wr _) := hO2
          clear hO2 hG2
          generalize hn2 : R2.length = n2 at *
          have HN2 : Hid (R2.length = n2) := hn2
          clear hn2
          go_wp2
          go_roundw
          case rel =>
            refine ⟨x + 1, R2, ao2, cap2, by rw [HN2.out], by go_num, by omega, .inl (by omega), HG2.out.col (by omega) hx1 hy2, ?_⟩
            rw [HN2.out]
            exact HO2.out
          case measure => simp [iOf]; omega
    · have hx' : ¬ x ≤ xh := hx
      have hmem : ∀ id, id ∈ R ↔ id ∈ boxL L x0 y0 x1 y1 := fun id => by
        rw [HG.out.2, mem_box HL.out.1]
        constructor
        · rintro ⟨c, hc, hq⟩
          have hw := HI.out.cell HL.out.1 hc
          exact ⟨c, hc, (HBX.out c hw).2 (by omega)⟩
        · rintro ⟨c, hc, hq⟩
          have hw := HI.out.cell HL.out.1 hc
          have := (HBX.out c hw).1 hq
          exact ⟨c, hc, .inl (by omega)⟩
      have HS : Hid (Calls _ _ _ _ _) := sort_ids w0 wr _ R (boxL L x0 y0 x1 y1) ao cap HO.out HG.out.1 (box_inc HL.out.1 _ _ _ _) hmem (by omega)
      clear hmem HO
      generalize R.length = n at *
      go_wp2_with fail
      refine HS.out.mono ?_
      rintro e w2 ⟨rfl, hO2, hnn⟩
      have HO2 : Hid (Own w0 w2 _) := hO2
      have HNN : Hid (n = (boxL L x0 y0 x1 y1).length) := hnn
      clear hO2 hnn HS
      go_wp2
      go_ret
      exact ⟨ao, cap, by rw [← HNN.out]; rfl, HO2.out⟩
end Go.Proofs.YthokgjkgfolojabDoor
