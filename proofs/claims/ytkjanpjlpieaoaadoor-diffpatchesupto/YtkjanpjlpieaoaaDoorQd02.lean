/-
  The table of the components that the program's text lays: what its reading gives.
-/
import Derived.Test.YtkjanpjlpieaoaaDoorQd01
import Derived.BigRegion
import Derived.BigQuiet
import Derived.Deep.QuietTactic
import Derived.Deep.SlicePairs
import Derived.Laws.BitsAllLaws
import Derived.Laws.BytesString
import Derived.Lib.Walk
import Derived.Lib.Small
import Derived.Test.YtkjanpjlpieaoaaDoorTie
import Derived.Test.YtkjanpjlpieaoaaDoorCards
import Derived.ProofKit
import Derived.OpenShut
import Derived.LaidMore
import Derived.SevenTiedAt
import Derived.Stop.Joined
import Derived.Lib.BitFns
namespace Go.Proofs.YtkjanpjlpieaoaaDoor
open Go.ChangeShapes Go.WideShapes Go.ChangeAt Go.WideMaps Go.WideElems Go.RowKit
set_option linter.unusedVariables false
set_option maxRecDepth 100000

/-- a kind: its name, whether it is told, how many fields, and the three places for fields: name, from, to -/
def kinds : List (List UInt8 × Bool × Nat × List (List UInt8 × Int × Int)) :=
  [([112, 111, 115], true, 2, [([120], -524288, 524287), ([121], -524288, 524287), ([], 0, 0)]),
   ([118, 101, 108], true, 2, [([100, 120], -32768, 32767), ([100, 121], -32768, 32767), ([], 0, 0)]),
   ([108, 105, 102, 101], true, 1, [([108, 101, 102, 116], 0, 4095), ([], 0, 0), ([], 0, 0)]),
   ([98, 111, 100, 121], true, 3, [([115, 104, 97, 112, 101], 0, 15), ([104, 112], 0, 1000), ([115, 105, 122, 101], 1, 100)]),
   ([116, 97, 103], true, 3, [([116, 101, 97, 109], 0, 7), ([99, 111, 108, 111, 114], 0, 255), ([102, 108, 97, 103, 115], 0, 31)]),
   ([115, 112, 97, 119, 110], false, 3, [([101, 118, 101, 114, 121], 1, 255), ([108, 101, 102, 116], 0, 254), ([115, 104, 97, 112, 101], 0, 15)])]
def kname (k : Nat) : List UInt8 := (kinds[k]?.map (·.1)).getD []
def ktold (k : Nat) : Bool := (kinds[k]?.map (·.2.1)).getD false
def cnt (k : Nat) : Nat := (kinds[k]?.map (·.2.2.1)).getD 0
def fld (k j : Nat) : List UInt8 × Int × Int := ((kinds[k]?.map (·.2.2.2)).getD [])[j]?.getD ([], 0, 0)
def fname (k j : Nat) : List UInt8 := (fld k j).1
def lo (k j : Nat) : Int := (fld k j).2.1
def hi (k j : Nat) : Int := (fld k j).2.2
def bstr5 (l : List UInt8) : ByteArray := ⟨l.toArray⟩

def fldData {H : Type} (f : List UInt8 × Int × Int) : DataW H := .agg [.lit (.string f.1), .lit (.int .i32 f.2.1), .lit (.int .i32 f.2.2)]
def kindData {H : Type} (r : List UInt8 × Bool × Nat × List (List UInt8 × Int × Int)) : DataW H := .agg [.lit (.string r.1), .lit (.bool r.2.1), .lit (.int .i64 (r.2.2.1 : Int)), .agg (r.2.2.2.map fldData)]
theorem laid_kinds {H : Type} : (Rows.laid_pinnace_schema_rows : DataW H) = .agg (kinds.map kindData) := rfl

theorem own : ownKnob Tryd.prog.godebug = none := by kernel_rfl
theorem gRows : Tryd.prog.globalNamed "pinnace/schema.rows" = some 0 := by kernel_rfl
theorem tRows : (Tryd.prog.globals[0]?).map (·.type) = some 102 := by kernel_rfl
def laid1 {H : Type} : List (String × DataW H) := [("pinnace/schema.rows", Rows.laid_pinnace_schema_rows)]
/-- the table lies where it was laid -/
structure Tab (w : World) : Prop where
  nm : ∀ k, k < 6 → w.cell? ⟨0, k * 12, none⟩ = some (.string (bstr5 (kname k)))
  told : ∀ k, k < 6 → w.cell? ⟨0, k * 12 + 1, none⟩ = some (.bool (ktold k))
  cnt : ∀ k, k < 6 → w.cell? ⟨0, k * 12 + 2, none⟩ = some (.int .i64 (cnt k : Int))
  fnm : ∀ k j, k < 6 → j < 3 → w.cell? ⟨0, k * 12 + 3 + j * 3, none⟩ = some (.string (bstr5 (fname k j)))
  lo : ∀ k j, k < 6 → j < 3 → w.cell? ⟨0, k * 12 + 3 + j * 3 + 1, none⟩ = some (.int .i32 (lo k j))
  hi : ∀ k j, k < 6 → j < 3 → w.cell? ⟨0, k * 12 + 3 + j * 3 + 2, none⟩ = some (.int .i32 (hi k j))
theorem Tab.keep {S : Nat → Prop} {w w' : World} (h : Tab w) (hf : Fr S w w') (hs : ¬ S 0) : Tab w' := by
  have key : ∀ (o : Nat) (v : Value), w.cell? ⟨0, o, none⟩ = some v → w'.cell? ⟨0, o, none⟩ = some v := fun o v hv => (hf.cell (p := ⟨0, o, none⟩) (World.block_lt_of_cell? w _ hv) hs).trans hv
  exact ⟨fun k hk => key _ _ (h.nm k hk), fun k hk => key _ _ (h.told k hk), fun k hk => key _ _ (h.cnt k hk), fun k j hk hj => key _ _ (h.fnm k j hk hj), fun k j hk hj => key _ _ (h.lo k j hk hj), fun k j hk hj => key _ _ (h.hi k j hk hj)⟩
theorem Tab.quiet {w w' : World} (h : Tab w) (hf : Fr Nobody w w') : Tab w' := h.keep hf id
theorem Tab.size {w : World} (h : Tab w) : 0 < w.heap.size := World.block_lt_of_cell? w _ (h.nm 0 (by decide))

theorem sub_cell {α : Type} {cs l : List α} {a n j : Nat} (h : ((cs.drop a).take n) = l) (hj : j < n) : cs[a + j]? = l[j]? := by
  subst h
  rw [List.getElem?_take, if_pos hj, List.getElem?_drop]

theorem fld_len (k : Nat) (hk : k < 6) : ((kinds[k]?.map (·.2.2.2)).getD []).length = 3 := by
  have : k = 0 ∨ k = 1 ∨ k = 2 ∨ k = 3 ∨ k = 4 ∨ k = 5 := by omega
  rcases this with rfl | rfl | rfl | rfl | rfl | rfl <;> rfl

theorem str_of {s : ByteArray} {l : List UInt8} (h : l = s.data.toList) : s = bstr5 l := by
  subst h; rfl

/-- one field's three cells -/
theorem fld_cells {H : Type} {enc : TypeId × Value → H} {w : World} {base : Nat} {spare : Nat → Bool} {held : Bool} {fuel : Nat} {cs : List Value} {f : List UInt8 × Int × Int} {p : List MemPlace}
    (h : DataW.trod enc Tryd.prog w base spare held fuel 98 cs = some (fldData f, p)) : cs = [.string (bstr5 f.1), .int .i32 f.2.1, .int .i32 f.2.2] := by
  obtain ⟨xs, n, _, hx, hl, hlen, hf⟩ := DataW.trod_struct Tryd.underlying98 h
  have cS : Tryd.prog.cellsOf 9 = 1 := by kernel_rfl
  have cI : Tryd.prog.cellsOf 21 = 1 := by kernel_rfl
  have cF : Tryd.prog.cellsOf 98 = 3 := by kernel_rfl
  rw [cF] at hl
  match cs, hl with
  | [c0, c1, c2], _ =>
  match xs, hlen with
  | [y0, y1, y2], _ =>
    have h0 := hf 0 _ rfl
    have h1 := hf 1 _ rfl
    have h2 := hf 2 _ rfl
    simp [cS, cI] at h0 h1 h2
    obtain ⟨s, e0, e0', _⟩ := DataW.trod_string Tryd.underlying9 h0
    obtain ⟨a, e1, e1', _⟩ := DataW.trod_int Tryd.underlying21 h1
    obtain ⟨b, e2, e2', _⟩ := DataW.trod_int Tryd.underlying21 h2
    subst e0' e1' e2'
    simp [fldData] at hx e0 e1 e2
    obtain ⟨⟨hs, ha, hb⟩, _⟩ := hx
    subst e0 e1 e2
    rw [str_of hs, ← ha, ← hb]

theorem getElem?_fld (k j : Nat) (hk : k < 6) (hj : j < 3) : ((kinds[k]?.map (·.2.2.2)).getD [])[j]? = some (fld k j) := by
  have hl := fld_len k hk
  unfold fld
  rw [List.getElem?_eq_getElem (by rw [hl]; exact hj)]
  rfl

theorem of_laid {W : World} (h : laidMetH Tryd.prog laid1 W) : Tab W := by
  rw [MakeChecks.laidMetH_plain _ _ _ (by kernel_rfl)] at h
  obtain ⟨ps, ⟨g0, t0, cs0, f0, p0, q0, hg0, ht0, hv0, hd0, _, _⟩, _, _⟩ := h
  obtain rfl := Option.some.inj (gRows.symm.trans hg0)
  obtain rfl := Option.some.inj (tRows.symm.trans ht0)
  obtain ⟨xs, m1, hx0, hx1, hlen, hn3, hel⟩ := DataW.trod_array Tryd.underlying102 hd0
  have cR : Tryd.prog.cellsOf 101 = 12 := by kernel_rfl
  have cS : Tryd.prog.cellsOf 9 = 1 := by kernel_rfl
  have cI : Tryd.prog.cellsOf 3 = 1 := by kernel_rfl
  have cBo : Tryd.prog.cellsOf 4 = 1 := by kernel_rfl
  have cF : Tryd.prog.cellsOf 98 = 3 := by kernel_rfl
  have cFs : Tryd.prog.cellsOf 99 = 9 := by kernel_rfl
  simp only [Prod.mk.injEq, laid_kinds, DataW.agg.injEq] at hx1
  have main : ∀ k, k < 6 → ∃ r, kinds[k]? = some r ∧ ∃ l : List Value, (cs0.toList.drop (k * 12)).take 12 = l ∧ l[0]? = some (.string (bstr5 r.1)) ∧ l[1]? = some (.bool r.2.1) ∧ l[2]? = some (.int .i64 (r.2.2.1 : Int)) ∧ ∀ j f, j < 3 → r.2.2.2[j]? = some f → (l.drop (3 + j * 3)).take 3 = [.string (bstr5 f.1), .int .i32 f.2.1, .int .i32 f.2.2] := by
    intro k hk
    have h0 := hel k hk
    have hxi : xs[k]? = some xs[k] := List.getElem?_eq_getElem (by rw [hn3]; exact hk)
    have hkk : kinds[k]? = some kinds[k] := List.getElem?_eq_getElem hk
    refine ⟨kinds[k], hkk, _, rfl, ?_⟩
    rw [cR] at h0
    generalize hl : (cs0.toList.drop (k * 12)).take 12 = l at *
    have hd : kindData (H := Unit) kinds[k] = (xs[k]).1 := by
      have h1 : (kinds.map (kindData (H := Unit)))[k]? = some (kindData kinds[k]) := by rw [List.getElem?_map, hkk]; rfl
      rw [hx1.1, List.getElem?_map, hxi] at h1
      simpa using h1.symm
    generalize kinds[k] = r at *
    obtain ⟨ys, n, _, hy, hyl, hylen, hf⟩ := DataW.trod_struct Tryd.underlying101 (h0.trans hxi)
    rw [cR] at hyl
    match l, hyl with
    | [c0, c1, c2, c3, c4, c5, c6, c7, c8, c9, c10, c11], _ =>
    match ys, hylen with
    | [y0, y1, y2, y3], _ =>
      have h0 := hf 0 _ rfl
      have h1 := hf 1 _ rfl
      have h2 := hf 2 _ rfl
      have h3 := hf 3 _ rfl
      simp [cS, cI, cBo, cFs] at h0 h1 h2 h3
      obtain ⟨s, e0, e0', _⟩ := DataW.trod_string Tryd.underlying9 h0
      obtain ⟨a, e1, e1'⟩ := DataW.trod_bool Tryd.underlying4 h1
      obtain ⟨b, e2, e2', _⟩ := DataW.trod_int Tryd.underlying3 h2
      obtain ⟨zs, m2, hz0, hz1, hzlen, hz3, hzel⟩ := DataW.trod_array Tryd.underlying99 h3
      rw [hy] at hd
      subst e0' e1' e2'
      simp [kindData] at hd e0 e1 e2
      obtain ⟨hs, ha, hb, hfs⟩ := hd
      subst e0 e1 e2
      refine ⟨by rw [str_of hs]; rfl, by rw [ha]; rfl, by rw [hb]; rfl, ?_⟩
      intro j f hj hjf
      have hzj := hzel j hj
      have hzi : zs[j]? = some zs[j] := List.getElem?_eq_getElem (by rw [hz3]; exact hj)
      rw [cF, hzi] at hzj
      have hdat : (zs[j]).1 = fldData f := by
        have h1 : (r.2.2.2.map (fldData (H := Unit)))[j]? = some (fldData f) := by rw [List.getElem?_map, hjf]; rfl
        simp only [hz1, DataW.agg.injEq] at hfs
        rw [hfs, List.getElem?_map, hzi] at h1
        simpa using h1
      have hz' : zs[j] = (fldData f, (zs[j]).2) := by rw [← hdat]
      rw [hz'] at hzj
      have := fld_cells hzj
      rw [← this, ← List.drop_drop]
      simp
  have cellOf : ∀ (o : Nat) (v : Value), cs0.toList[o]? = some v → W.cell? ⟨0, o, none⟩ = some v := fun o v hv => by
    rw [World.var?_cell hg0 hv0 o, ← Array.getElem?_toList]; exact hv
  have pre : ∀ k o v, k < 6 → o < 12 → ((cs0.toList.drop (k * 12)).take 12)[o]? = some v → W.cell? ⟨0, k * 12 + o, none⟩ = some v := fun k o v hk ho hv => by
    apply cellOf
    rw [List.getElem?_take, if_pos ho, List.getElem?_drop] at hv
    exact hv
  refine ⟨fun k hk => ?_, fun k hk => ?_, fun k hk => ?_, fun k j hk hj => ?_, fun k j hk hj => ?_, fun k j hk hj => ?_⟩
  all_goals obtain ⟨r, hr, l, hl, l0, l1, l2, l3⟩ := main k hk
  · rw [← hl] at l0; have := pre k 0 _ hk (by decide) l0
    simpa [kname, hr] using this
  · rw [← hl] at l1; have := pre k 1 _ hk (by decide) l1
    simpa [ktold, hr] using this
  · rw [← hl] at l2; have := pre k 2 _ hk (by decide) l2
    simpa [Go.Proofs.YtkjanpjlpieaoaaDoor.cnt, hr] using this
  all_goals
    have hfj := getElem?_fld k j hk hj
    rw [hr] at hfj
    have h3 := l3 j _ hj hfj
    rw [← hl] at h3
  · have := pre k (3 + j * 3 + 0) _ hk (by omega) (by rw [sub_cell h3 (by decide)]; rfl)
    rw [Nat.add_assoc]; exact this
  · have := pre k (3 + j * 3 + 1) _ hk (by omega) (by rw [sub_cell h3 (by decide)]; rfl)
    rw [Nat.add_assoc, Nat.add_assoc]; exact this
  · have := pre k (3 + j * 3 + 2) _ hk (by omega) (by rw [sub_cell h3 (by decide)]; rfl)
    rw [Nat.add_assoc, Nat.add_assoc]; exact this
end Go.Proofs.YtkjanpjlpieaoaaDoor

/-
  span, Width, groups, Zig and Zag of package nums.
-/
namespace Go.Proofs.YtkjanpjlpieaoaaDoor
open Go.RowKit
set_option linter.unusedVariables false

/-- how many bits a range takes -/
def wid (lo hi : Int) : Nat := if hi < lo then 0 else Lib.bitLen (hi - lo).toNat

end Go.Proofs.YtkjanpjlpieaoaaDoor

/-
  Count, Name, hasField, Field, Range, Told of package schema.
-/
namespace Go.Proofs.YtkjanpjlpieaoaaDoor
open Go.RowKit
set_option linter.unusedVariables false

theorem cnt_out (k : Nat) (h : 6 ≤ k) : cnt k = 0 := by unfold cnt; rw [List.getElem?_eq_none (by exact h)]; rfl
theorem cnt_le (k : Nat) : cnt k ≤ 3 := by
  by_cases h : 6 ≤ k
  · rw [cnt_out k h]; decide
  · have : k = 0 ∨ k = 1 ∨ k = 2 ∨ k = 3 ∨ k = 4 ∨ k = 5 := by omega
    rcases this with rfl | rfl | rfl | rfl | rfl | rfl <;> decide
theorem cnt_pos (k : Nat) (h : k < 6) : 1 ≤ cnt k := by
  have : k = 0 ∨ k = 1 ∨ k = 2 ∨ k = 3 ∨ k = 4 ∨ k = 5 := by omega
  rcases this with rfl | rfl | rfl | rfl | rfl | rfl <;> decide

set_option maxHeartbeats 400000 in
theorem count_any (w : World) (ht : Tab w) (k : Nat) (hk : k < 256) :
    Calls Tryd.prog 84 #[.int .u8 (k : Int)] w fun e w' => e = .returned (.int .i64 ((cnt k : Nat) : Int)) ∧ w' = w := by
  by_cases h : k < 6
  · have h1 := ht.cnt k h
    generalize cnt k = c at *
    clear ht
    go_enter Tryd.func84, Tryd.ntmps84
    go_wp2
    go_ret
    exact ⟨rfl, rfl⟩
  · rw [cnt_out k (by omega)]
    clear ht
    go_enter Tryd.func84, Tryd.ntmps84
    go_wp2
    go_ret
    exact ⟨rfl, rfl⟩

theorem ktold_out (k : Nat) (h : 6 ≤ k) : ktold k = false := by unfold ktold; rw [List.getElem?_eq_none (by exact h)]; rfl

set_option maxHeartbeats 400000 in
theorem told_any (w : World) (ht : Tab w) (k : Nat) (hk : k < 256) :
    Calls Tryd.prog 51 #[.int .u8 (k : Int)] w fun e w' => e = .returned (.bool (ktold k)) ∧ w' = w := by
  by_cases h : k < 6
  · have h1 := ht.told k h
    generalize ktold k = c at *
    clear ht
    go_enter Tryd.func51, Tryd.ntmps51
    go_wp2
    go_ret
    exact ⟨rfl, rfl⟩
  · rw [ktold_out k (by omega)]
    clear ht
    go_enter Tryd.func51, Tryd.ntmps51
    go_wp2
    go_ret
    exact ⟨rfl, rfl⟩

end Go.Proofs.YtkjanpjlpieaoaaDoor

