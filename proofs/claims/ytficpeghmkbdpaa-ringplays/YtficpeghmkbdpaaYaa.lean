/-
  Rings that may be nil; what is asked of both rings behind every step.
-/
import Derived.Test.YtficpeghmkbdpaaYz
namespace Go.Proofs.Ytficpeghmkbdpaa
open Go.RowKit
set_option linter.unusedVariables false

def pp (p : Option Nat) : Option Addr := p.map fun b => ⟨b, 0, none⟩
theorem pp_none (p : Option Nat) : (pp p).isNone = p.isNone := by cases p <;> rfl
theorem Own.emp {w0 w : World} {l : List Thing} (h : Own w0 w l) : Own w0 w (Emp :: l) := h.new Emp (fun _ => False) (fun _ h => h) (Fr.refl _ _) (fun _ h => h.elim)
def RiO (p : Option Nat) (k : Nat) (L : List (Nat × Int)) : Thing := match p with
  | some b => Ringa b k L
  | none => Emp
def RRiO (q : Option Nat) (k : Nat) (L : List (Nat × Int)) : Thing := match q with
  | some c => RRing c k L
  | none => Emp
/-- what is so of both rings: of nil ones nothing is held -/
def Both (z : Bool) (k : Nat) (L : List (Nat × Int)) : Prop := ROk k L ∧ (z = true → L = [])

set_option maxHeartbeats 2000000 in
set_option maxRecDepth 100000 in
theorem same_nil (w0 w : World) (l : List Thing) (h : Own w0 w l) :
    Calls Try.prog 39 #[.pointer none, .pointer none] w fun e w' => e = .returned (.bool true) ∧ Own w0 w' l := by
  have H : Hid (Own w0 w l) := h
  clear h
  go_enter Try.func39, Try.ntmps39
  go_wp2_with (first | (go_at_call 48; refine (ticksnila _).mono ?_; rintro e w' ⟨rfl, hw⟩; subst hw) | (go_at_call 51; refine (lastnila _).mono ?_; rintro e w' ⟨rfl, hw⟩; subst hw; simp only [lva]) | (go_at_call 52; refine (lennila _).mono ?_; rintro e w' ⟨rfl, hw⟩; subst hw))
  go_ret
  exact ⟨rfl, H.out⟩

set_option maxHeartbeats 4000000 in
set_option maxRecDepth 100000 in
theorem same_some (w0 w : World) (l : List Thing) (b c k : Nat) (L : List (Nat × Int)) (h : Own w0 w (Ringa b k L :: RRing c k L :: l)) (hR : ROk k L) :
    Calls Try.prog 39 #[.pointer (some ⟨b, 0, none⟩), .pointer (some ⟨c, 0, none⟩)] w fun e w' => e = .returned (.bool true) ∧ Own w0 w' (Ringa b k L :: RRing c k L :: l) := by
  have hk := hR.k2
  have hle := hR.le
  have HR : Hid (ROk k L) := hR
  have H : Hid (Own w0 w (Ringa b k L :: RRing c k L :: l)) := h
  clear h hR
  go_enter Try.func39, Try.ntmps39
  go_wp2_with fail
  refine (ticksa w0 w _ b k L H.out HR.out).mono ?_
  rintro e w1 ⟨ta, tc, rfl, hO⟩
  have H1 : Hid (Own w0 w1 (Row 22 1 (.slice ta L.length tc) L.length (irow .u32 (tksa L)) :: Ringa b k L :: RRing c k L :: l)) := hO
  clear hO H
  go_wp2_with fail
  refine (lasta w0 w1 _ b k L H1.out.two HR.out).mono ?_
  rintro e w2 ⟨rfl, hO⟩
  have hq1 : ∃ ao cap, w2.cell? ⟨c, 1, none⟩ = some (.slice ao L.length cap) := by
    obtain ⟨v, hv⟩ := Own.ex_iff.1 hO.three
    obtain ⟨ao, cap, rfl, _, _⟩ := hv.two.vshape
    exact ⟨ao, cap, by have := hv.cell 1; simpa using this⟩
  obtain ⟨ao, cap, q1⟩ := hq1
  have H2 : Hid (Own w0 w2 (Ringa b k L :: Row 22 1 (.slice ta L.length tc) L.length (irow .u32 (tksa L)) :: RRing c k L :: l)) := hO
  clear hO H1
  by_cases hl0 : L.length = 0
  · have hnil : L.getLast? = none := by rw [List.eq_nil_of_length_eq_zero hl0]; rfl
    rw [hnil]
    simp only [lva]
    have hln : ((L.length : Int) == 0) = true := by rw [hl0]; rfl
    have HL : Hid (∀ w', Own w0 w' (Ringa b k L :: Row 22 1 (.slice ta L.length tc) L.length (irow .u32 (tksa L)) :: RRing c k L :: l) → Calls Try.prog 52 #[.pointer (some ⟨b, 0, none⟩)] w' fun e w'' => e = .returned (.int .i64 (L.length : Int)) ∧ w'' = w') := fun w' h' => lena w0 w' _ b k L h'
    have HF : Hid (Own w0 w2 (Ringa b k L :: RRing c k L :: l)) := H2.out.two.tail
    clear hnil
    go_wp2_with (first | (go_at_call 52; refine (HL.out _ H2.out).mono ?_; rintro e w' ⟨rfl, hw⟩; subst hw))
    go_ret
    exact ⟨rfl, HF.out⟩
  · obtain ⟨le, hle2⟩ : ∃ e, L[L.length - 1]? = some e := ⟨_, List.getElem?_eq_getElem (by omega)⟩
    have hlast : L.getLast? = some le := by rw [List.getLast?_eq_getElem?]; exact hle2
    rw [hlast]
    simp only [lva]
    have hln : ((L.length : Int) == 0) = false := by rw [beq_eq_false_iff_ne]; omega
    have hll : ((L.length : Int) != (L.length : Int)) = false := by simp
    have HLE : Hid (L[L.length - 1]? = some le) := hle2
    obtain ⟨lt, lx⟩ := le
    simp only
    have HL : Hid (∀ w', Own w0 w' (Ringa b k L :: Row 22 1 (.slice ta L.length tc) L.length (irow .u32 (tksa L)) :: RRing c k L :: l) → Calls Try.prog 52 #[.pointer (some ⟨b, 0, none⟩)] w' fun e w'' => e = .returned (.int .i64 (L.length : Int)) ∧ w'' = w') := fun w' h' => lena w0 w' _ b k L h'
    clear hle2 hlast
    go_wp2_with (first | (go_at_call 52; refine (HL.out _ H2.out).mono ?_; rintro e w' ⟨rfl, hw⟩; subst hw))
    go_loopw [72] (fun cc wr => ∃ n : Nat, n ≤ L.length ∧ cc = .int .i64 n ∧ Own w0 wr (Ringa b k L :: Row 22 1 (.slice ta L.length tc) L.length (irow .u32 (tksa L)) :: Cells c #[.int .i64 (k : Int), .slice ao L.length cap] 75 :: View 2 (.slice ao L.length cap) L.length (cat ela L) :: l)) (fun cc _ => L.length - (intOf cc).toNat)
    case atStart =>
      refine ⟨0, Nat.zero_le _, rfl, ?_⟩
      obtain ⟨v, hv⟩ := Own.ex_iff.1 H2.out.three
      have hc := hv.cell 1
      rw [q1] at hc
      simp at hc
      subst hc
      exact hv.perm (by
        refine (List.perm_append_comm (l₁ := [_, _]) (l₂ := _ :: _ :: l)).trans ?_
        refine (List.Perm.cons _ (List.Perm.cons _ ?_))
        exact (List.perm_append_comm (l₁ := l) (l₂ := [_, _])))
    case round =>
      obtain ⟨n, hn, rfl, hO⟩ := hrel
      clear H2 q1 HL hll
      by_cases hlt : n < L.length
      · obtain ⟨e, he⟩ : ∃ e, L[n]? = some e := ⟨_, List.getElem?_eq_getElem hlt⟩
        obtain ⟨g, o, rfl, c0, c1⟩ := vitem hO.four n e he
        have he2 := HR.out.lt e (List.mem_of_getElem? he)
        have HG : Hid (rget L e.1 = some e.2) := rg_mem HR.out.inc e (List.mem_of_getElem? he)
        obtain ⟨g5, c5, hv5, _⟩ := row_shape hO.two.row (by omega)
        have hg5 := (Value.slice.inj hv5).1
        subst hg5
        have cy := hO.two.row.cellAt n (by omega)
        rw [getElem?_irow, tksa, List.getElem?_map, he] at cy
        simp only [Option.map_some] at cy
        have hlt' : (n : Int) < (L.length : Int) := by omega
        have HO : Hid (Own w0 _ (Ringa b k L :: Row 22 1 (.slice (some ⟨g5, 0, none⟩) L.length tc) L.length (irow .u32 (tksa L)) :: Cells c #[.int .i64 (k : Int), .slice (some ⟨g, o, none⟩) L.length cap] 75 :: View 2 (.slice (some ⟨g, o, none⟩) L.length cap) L.length (cat ela L) :: l)) := hO
        have hb5 := World.block_lt_of_cell? _ _ cy
        clear he hO hv5
        obtain ⟨et, ex⟩ := e
        simp only at c0 c1 he2 HG cy
        have hee : ((et : Int) != (et : Int)) = false := by simp
        have hxx : (ex != ex) = false := by simp
        go_wp2_with fail
        refine (geta w0 _ _ b k L et (HO.out.allocC #[.int .u32 (et : Int), .int .i64 ex] 104).two HR.out).mono ?_
        rw [HG.out]
        rintro e w3 ⟨rfl, hO3⟩
        simp only [gva]
        have b0 := hO3.two.cell 0
        have b1 := hO3.two.cell 1
        simp at b0 b1
        have r3 := hO3.three.row
        have cy3 := r3.cellAt n (by omega)
        have cy4 : w3.cell? ⟨g5, n, none⟩ = some (.int .u32 (et : Int)) := by
          rw [cy3]
          have h1 := HO.out.two.row.cellAt n (by omega)
          rw [cy] at h1
          exact h1.symm
        have H3 : Hid (Own w0 w3 (Ringa b k L :: Row 22 1 (.slice (some ⟨g5, 0, none⟩) L.length tc) L.length (irow .u32 (tksa L)) :: Cells c #[.int .i64 (k : Int), .slice (some ⟨g, o, none⟩) L.length cap] 75 :: View 2 (.slice (some ⟨g, o, none⟩) L.length cap) L.length (cat ela L) :: l)) := hO3.two.tail
        clear hO3 r3 cy3 HO c0 c1 cy
        go_wp2
        go_quiet (fail)
        go_wp2
        go_roundw
        case rel => exact ⟨n + 1, by omega, by go_num, H3.out.drewN _⟩
        case measure => simp [intOf]; omega
      · obtain ⟨g, o, rfl, c0, c1⟩ := vitem hO.four (L.length - 1) (lt, lx) HLE.out
        simp only at c0 c1
        have q1 := hO.three.cell 1
        simp at q1
        have he2 := HR.out.lt (lt, lx) (List.mem_of_getElem? HLE.out)
        simp only at he2
        have hidx : ((L.length : Int) - 1) = ((L.length - 1 : Nat) : Int) := by omega
        have hidl : L.length - 1 < L.length := by omega
        have hidl' : ((L.length - 1 : Nat) : Int) < (L.length : Int) := by omega
        have hbl := World.block_lt_of_cell? _ _ c0
        have hbb := hO.three.lt
        simp only at hbl
        have hlt' : ¬ (n : Int) < (L.length : Int) := by omega
        have HF : Hid (Own w0 _ (Ringa b k L :: RRing c k L :: l)) := (Own.ex_iff.2 ⟨_, hO.two.tail.back3⟩ : Own w0 wr (RRing c k L :: Ringa b k L :: l)).two
        clear hO HLE
        generalize hm : L.length - 1 = m at *
        clear hm
        have hq1 : ((lt : Int) == (lt : Int)) = true := by simp
        have hq2 : (lx == lx) = true := by simp
        go_wp2
        go_region
        go_wp2
        go_ret
        exact ⟨rfl, (HF.out.drew.alloc _)⟩
end Go.Proofs.Ytficpeghmkbdpaa
