/- The table of the components that the program's text lays: what its reading gives. -/
import Derived.Test.YtgifeckbflkkpaaGreatDoorQl03
import Derived.Test.YtgifeckbflkkpaaGreatDoorTie
import Derived.Test.YtgifeckbflkkpaaGreatDoorCards
import Derived.ProofKit
import Derived.OpenShut
import Derived.LaidMore
import Derived.SevenTiedAt
import Derived.Stop.Joined
import Derived.Lib.BitFns
import Derived.Lib.Walk
import Derived.Lib.Small
namespace Go.Proofs.YtgifeckbflkkpaaGreatDoor
open Go.ChangeShapes Go.WideShapes Go.ChangeAt Go.WideMaps Go.WideElems Go.RowKit
set_option linter.unusedVariables false
set_option maxHeartbeats 400000
set_option maxRecDepth 100000
def kinds : List (List UInt8 × Bool × Nat × List (List UInt8 × Int × Int)) :=
 [([112,111,115],true,2,[([120],-524288,524287),([121],-524288,524287),([],0,0)]),
  ([118,101,108],true,2,[([100,120],-32768,32767),([100,121],-32768,32767),([],0,0)]),
  ([108,105,102,101],true,1,[([108,101,102,116],0,4095),([],0,0),([],0,0)]),
  ([98,111,100,121],true,3,[([115,104,97,112,101],0,15),([104,112],0,1000),([115,105,122,101],1,100)]),
  ([116,97,103],true,3,[([116,101,97,109],0,7),([99,111,108,111,114],0,255),([102,108,97,103,115],0,31)]),
  ([115,112,97,119,110],false,3,[([101,118,101,114,121],1,255),([108,101,102,116],0,254),([115,104,97,112,101],0,15)])]
def kname (k : Nat) : List UInt8 := (kinds[k]?.map (·.1)).getD []
def ktold (k : Nat) : Bool := (kinds[k]?.map (·.2.1)).getD false
def cnt (k : Nat) : Nat := (kinds[k]?.map (·.2.2.1)).getD 0
def fld (k j : Nat) : List UInt8 × Int × Int := ((kinds[k]?.map (·.2.2.2)).getD [])[j]?.getD ([],0,0)
def fname (k j : Nat) : List UInt8 := (fld k j).1
def lo (k j : Nat) : Int := (fld k j).2.1
def hi (k j : Nat) : Int := (fld k j).2.2
def bstr5 (l : List UInt8) : ByteArray := ⟨l.toArray⟩
def fldData {H : Type} (f : List UInt8 × Int × Int) : DataW H := .agg [.lit (.string f.1),.lit (.int .i32 f.2.1),.lit (.int .i32 f.2.2)]
def kindData {H : Type} (r : List UInt8 × Bool × Nat × List (List UInt8 × Int × Int)) : DataW H := .agg [.lit (.string r.1),.lit (.bool r.2.1),.lit (.int .i64 (r.2.2.1 : Int)),.agg (r.2.2.2.map fldData)]
theorem laid_kinds {H : Type} : (Rows.laid_pinnace_schema_rows : DataW H) = .agg (kinds.map kindData) := rfl
theorem own : ownKnob Tryz.prog.godebug = none := by kernel_rfl
theorem gRows : Tryz.prog.globalNamed "pinnace/schema.rows" = some 1 := by kernel_rfl
theorem tRows : (Tryz.prog.globals[1]?).map (·.type) = some 263 := by kernel_rfl
def laid1 {H : Type} : List (String × DataW H) := [("pinnace/frame.steps",Rows.laid_pinnace_frame_steps),("pinnace/schema.rows",Rows.laid_pinnace_schema_rows)]
structure Tab (w : World) : Prop where
 nm : ∀ k,k < 6 → w.cell? ⟨1,k * 12,none⟩ = some (.string (bstr5 (kname k)))
 told : ∀ k,k < 6 → w.cell? ⟨1,k * 12 + 1,none⟩ = some (.bool (ktold k))
 cnt : ∀ k,k < 6 → w.cell? ⟨1,k * 12 + 2,none⟩ = some (.int .i64 (cnt k : Int))
 fnm : ∀ k j,k < 6 → j < 3 → w.cell? ⟨1,k * 12 + 3 + j * 3,none⟩ = some (.string (bstr5 (fname k j)))
 lo : ∀ k j,k < 6 → j < 3 → w.cell? ⟨1,k * 12 + 3 + j * 3 + 1,none⟩ = some (.int .i32 (lo k j))
 hi : ∀ k j,k < 6 → j < 3 → w.cell? ⟨1,k * 12 + 3 + j * 3 + 2,none⟩ = some (.int .i32 (hi k j))
theorem Tab.keep {S : Nat → Prop} {w w' : World} (h : Tab w) (hf : Fr S w w') (hs : ¬ S 1) : Tab w' := by
 have key : ∀ (o : Nat) (v : Value),w.cell? ⟨1,o,none⟩ = some v → w'.cell? ⟨1,o,none⟩ = some v := fun o v hv => (hf.cell (p := ⟨1,o,none⟩) (World.block_lt_of_cell? w _ hv) hs).trans hv
 exact ⟨fun k hk => key _ _ (h.nm k hk),fun k hk => key _ _ (h.told k hk),fun k hk => key _ _ (h.cnt k hk),fun k j hk hj => key _ _ (h.fnm k j hk hj),fun k j hk hj => key _ _ (h.lo k j hk hj),fun k j hk hj => key _ _ (h.hi k j hk hj)⟩
theorem Tab.quiet {w w' : World} (h : Tab w) (hf : Fr Nobody w w') : Tab w' := h.keep hf id
theorem Tab.size {w : World} (h : Tab w) : 1 < w.heap.size := World.block_lt_of_cell? w _ (h.nm 0 (by decide))
theorem sub_cell {α : Type} {cs l : List α} {a n j : Nat} (h : ((cs.drop a).take n) = l) (hj : j < n) : cs[a + j]? = l[j]? := by
 subst h
 rw [List.getElem?_take,if_pos hj,List.getElem?_drop]
theorem fld_len (k : Nat) (hk : k < 6) : ((kinds[k]?.map (·.2.2.2)).getD []).length = 3 := by
 have : k = 0 ∨ k = 1 ∨ k = 2 ∨ k = 3 ∨ k = 4 ∨ k = 5 := by omega
 rcases this with rfl | rfl | rfl | rfl | rfl | rfl <;> rfl
theorem str_of {s : ByteArray} {l : List UInt8} (h : l = s.data.toList) : s = bstr5 l := by
 subst h; rfl
theorem fld_cells {H : Type} {enc : TypeId × Value → H} {w : World} {base : Nat} {spare : Nat → Bool} {held : Bool} {fuel : Nat} {cs : List Value} {f : List UInt8 × Int × Int} {p : List MemPlace}
  (h : DataW.trod enc Tryz.prog w base spare held fuel 259 cs = some (fldData f,p)) : cs = [.string (bstr5 f.1),.int .i32 f.2.1,.int .i32 f.2.2] := by
 obtain ⟨xs,n,_,hx,hl,hlen,hf⟩ := DataW.trod_struct Tryz.underlying259 h
 have cS : Tryz.prog.cellsOf 9 = 1 := by kernel_rfl
 have cI : Tryz.prog.cellsOf 21 = 1 := by kernel_rfl
 have cF : Tryz.prog.cellsOf 259 = 3 := by kernel_rfl
 rw [cF] at hl
 match cs,hl with
 | [c0,c1,c2],_ =>
 match xs,hlen with
 | [y0,y1,y2],_ =>
  have h0 := hf 0 _ rfl
  have h1 := hf 1 _ rfl
  have h2 := hf 2 _ rfl
  simp [cS,cI] at h0 h1 h2
  obtain ⟨s,e0,e0',_⟩ := DataW.trod_string Tryz.underlying9 h0
  obtain ⟨a,e1,e1',_⟩ := DataW.trod_int Tryz.underlying21 h1
  obtain ⟨b,e2,e2',_⟩ := DataW.trod_int Tryz.underlying21 h2
  subst e0' e1' e2'
  simp [fldData] at hx e0 e1 e2
  obtain ⟨⟨hs,ha,hb⟩,_⟩ := hx
  subst e0 e1 e2
  rw [str_of hs,← ha,← hb]
theorem getElem?_fld (k j : Nat) (hk : k < 6) (hj : j < 3) : ((kinds[k]?.map (·.2.2.2)).getD [])[j]? = some (fld k j) := by
 have hl := fld_len k hk
 unfold fld
 rw [List.getElem?_eq_getElem (by rw [hl]; exact hj)]
 rfl
theorem of_laid {W : World} (h : laidMetH Tryz.prog laid1 W) : Tab W := by
 rw [MakeChecks.laidMetH_plain _ _ _ (by kernel_rfl)] at h
 obtain ⟨ps,⟨_,_,_,_,_,_,_,_,_,_,⟨g0,t0,cs0,f0,p0,q0,hg0,ht0,hv0,hd0,_,_⟩,_⟩,_,_⟩ := h
 obtain rfl := Option.some.inj (gRows.symm.trans hg0)
 obtain rfl := Option.some.inj (tRows.symm.trans ht0)
 obtain ⟨xs,m1,hx0,hx1,hlen,hn3,hel⟩ := DataW.trod_array Tryz.underlying263 hd0
 have cR : Tryz.prog.cellsOf 262 = 12 := by kernel_rfl
 have cS : Tryz.prog.cellsOf 9 = 1 := by kernel_rfl
 have cI : Tryz.prog.cellsOf 3 = 1 := by kernel_rfl
 have cBo : Tryz.prog.cellsOf 4 = 1 := by kernel_rfl
 have cF : Tryz.prog.cellsOf 259 = 3 := by kernel_rfl
 have cFs : Tryz.prog.cellsOf 260 = 9 := by kernel_rfl
 simp only [Prod.mk.injEq,laid_kinds,DataW.agg.injEq] at hx1
 have main : ∀ k,k < 6 → ∃ r,kinds[k]? = some r ∧ ∃ l : List Value,(cs0.toList.drop (k * 12)).take 12 = l ∧ l[0]? = some (.string (bstr5 r.1)) ∧ l[1]? = some (.bool r.2.1) ∧ l[2]? = some (.int .i64 (r.2.2.1 : Int)) ∧ ∀ j f,j < 3 → r.2.2.2[j]? = some f → (l.drop (3 + j * 3)).take 3 = [.string (bstr5 f.1),.int .i32 f.2.1,.int .i32 f.2.2] := by
  intro k hk
  have h0 := hel k hk
  have hxi : xs[k]? = some xs[k] := List.getElem?_eq_getElem (by rw [hn3]; exact hk)
  have hkk : kinds[k]? = some kinds[k] := List.getElem?_eq_getElem hk
  refine ⟨kinds[k],hkk,_,rfl,?_⟩
  rw [cR] at h0
  generalize hl : (cs0.toList.drop (k * 12)).take 12 = l at *
  have hd : kindData (H := Unit) kinds[k] = (xs[k]).1 := by
   have h1 : (kinds.map (kindData (H := Unit)))[k]? = some (kindData kinds[k]) := by rw [List.getElem?_map,hkk]; rfl
   rw [hx1.1,List.getElem?_map,hxi] at h1
   simpa using h1.symm
  generalize kinds[k] = r at *
  obtain ⟨ys,n,_,hy,hyl,hylen,hf⟩ := DataW.trod_struct Tryz.underlying262 (h0.trans hxi)
  rw [cR] at hyl
  match l,hyl with
  | [c0,c1,c2,c3,c4,c5,c6,c7,c8,c9,c10,c11],_ =>
  match ys,hylen with
  | [y0,y1,y2,y3],_ =>
   have h0 := hf 0 _ rfl
   have h1 := hf 1 _ rfl
   have h2 := hf 2 _ rfl
   have h3 := hf 3 _ rfl
   simp [cS,cI,cBo,cFs] at h0 h1 h2 h3
   obtain ⟨s,e0,e0',_⟩ := DataW.trod_string Tryz.underlying9 h0
   obtain ⟨a,e1,e1'⟩ := DataW.trod_bool Tryz.underlying4 h1
   obtain ⟨b,e2,e2',_⟩ := DataW.trod_int Tryz.underlying3 h2
   obtain ⟨zs,m2,hz0,hz1,hzlen,hz3,hzel⟩ := DataW.trod_array Tryz.underlying260 h3
   rw [hy] at hd
   subst e0' e1' e2'
   simp [kindData] at hd e0 e1 e2
   obtain ⟨hs,ha,hb,hfs⟩ := hd
   subst e0 e1 e2
   refine ⟨by rw [str_of hs]; rfl,by rw [ha]; rfl,by rw [hb]; rfl,?_⟩
   intro j f hj hjf
   have hzj := hzel j hj
   have hzi : zs[j]? = some zs[j] := List.getElem?_eq_getElem (by rw [hz3]; exact hj)
   rw [cF,hzi] at hzj
   have hdat : (zs[j]).1 = fldData f := by
    have h1 : (r.2.2.2.map (fldData (H := Unit)))[j]? = some (fldData f) := by rw [List.getElem?_map,hjf]; rfl
    simp only [hz1,DataW.agg.injEq] at hfs
    rw [hfs,List.getElem?_map,hzi] at h1
    simpa using h1
   have hz' : zs[j] = (fldData f,(zs[j]).2) := by rw [← hdat]
   rw [hz'] at hzj
   have := fld_cells hzj
   rw [← this,← List.drop_drop]
   simp
 have cellOf : ∀ (o : Nat) (v : Value),cs0.toList[o]? = some v → W.cell? ⟨1,o,none⟩ = some v := fun o v hv => by
  rw [World.var?_cell hg0 hv0 o,← Array.getElem?_toList]; exact hv
 have pre : ∀ k o v,k < 6 → o < 12 → ((cs0.toList.drop (k * 12)).take 12)[o]? = some v → W.cell? ⟨1,k * 12 + o,none⟩ = some v := fun k o v hk ho hv => by
  apply cellOf
  rw [List.getElem?_take,if_pos ho,List.getElem?_drop] at hv
  exact hv
 refine ⟨fun k hk => ?_,fun k hk => ?_,fun k hk => ?_,fun k j hk hj => ?_,fun k j hk hj => ?_,fun k j hk hj => ?_⟩
 all_goals obtain ⟨r,hr,l,hl,l0,l1,l2,l3⟩ := main k hk
 ·rw [← hl] at l0; have := pre k 0 _ hk (by decide) l0
  simpa [kname,hr] using this
 ·rw [← hl] at l1; have := pre k 1 _ hk (by decide) l1
  simpa [ktold,hr] using this
 ·rw [← hl] at l2; have := pre k 2 _ hk (by decide) l2
  simpa [Go.Proofs.YtgifeckbflkkpaaGreatDoor.cnt,hr] using this
 all_goals
  have hfj := getElem?_fld k j hk hj
  rw [hr] at hfj
  have h3 := l3 j _ hj hfj
  rw [← hl] at h3
 ·have := pre k (3 + j * 3 + 0) _ hk (by omega) (by rw [sub_cell h3 (by decide)]; rfl)
  rw [Nat.add_assoc]; exact this
 ·have := pre k (3 + j * 3 + 1) _ hk (by omega) (by rw [sub_cell h3 (by decide)]; rfl)
  rw [Nat.add_assoc,Nat.add_assoc]; exact this
 ·have := pre k (3 + j * 3 + 2) _ hk (by omega) (by rw [sub_cell h3 (by decide)]; rfl)
  rw [Nat.add_assoc,Nat.add_assoc]; exact this
end Go.Proofs.YtgifeckbflkkpaaGreatDoor
namespace Go.Proofs.YtgifeckbflkkpaaGreatDoor
open Go.RowKit
set_option linter.unusedVariables false
set_option maxHeartbeats 400000
theorem len_byte (x s : Nat) (hx : x < 18446744073709551616) (hs : s = 0 ∨ 2 ^ s ≤ x) (hb : x / 2 ^ s ≤ 255) (b : Int) (e : b = ((x / 2 ^ s : Nat) : Int)) : ∃ l : Nat,l ≤ 8 ∧ Lib.len8 b = (l : Int) ∧ s + l = Lib.bitLen x := by
 have h : b.toNat = x / 2 ^ s := by rw [e,Int.toNat_natCast]
 have hb0 : 0 ≤ b := by rw [e]; exact Int.natCast_nonneg _
 have hb1 : b ≤ 255 := by rw [e]; exact Int.ofNat_le.2 hb
 refine ⟨Lib.bitLen b.toNat,Lib.bitLen_le8' b hb0 hb1,Lib.len8_of b hb0 hb1,?_⟩
 rw [h]
 rcases hs with rfl | hs
 ·simp
 ·exact (Lib.bitLen_shift s x hs hx).symm
set_option maxRecDepth 100000 in
theorem len64_111 (x : Int) (l : Nat) (w : World) (h0 : 0 ≤ x) (h1 : x ≤ 18446744073709551615) (t0 : 4294967296 ≤ x) (t1 : 65536 ≤ x / 4294967296) (t2 : 256 ≤ x / 4294967296 / 65536) (b0 : 0 ≤ x / 4294967296 / 65536 / 256) (b1 : x / 4294967296 / 65536 / 256 ≤ 255) (hl : l ≤ 8) (hL : Lib.len8 (x / 4294967296 / 65536 / 256) = (l : Int)) :
  Calls Tryz.prog 186 #[.int .u64 x] w fun e w' => e = .returned (.int .i64 (56 + (l : Int))) ∧ w' = w := by
 go_enter Tryz.func186,Tryz.ntmps186
 go_wp2
 go_ret
 exact ⟨ret_int (by omega),rfl⟩
set_option maxRecDepth 100000 in
theorem len64_110 (x : Int) (l : Nat) (w : World) (h0 : 0 ≤ x) (h1 : x ≤ 18446744073709551615) (t0 : 4294967296 ≤ x) (t1 : 65536 ≤ x / 4294967296) (t2 : x / 4294967296 / 65536 < 256) (b0 : 0 ≤ x / 4294967296 / 65536) (b1 : x / 4294967296 / 65536 ≤ 255) (hl : l ≤ 8) (hL : Lib.len8 (x / 4294967296 / 65536) = (l : Int)) :
  Calls Tryz.prog 186 #[.int .u64 x] w fun e w' => e = .returned (.int .i64 (48 + (l : Int))) ∧ w' = w := by
 go_enter Tryz.func186,Tryz.ntmps186
 go_wp2
 go_ret
 exact ⟨ret_int (by omega),rfl⟩
set_option maxRecDepth 100000 in
theorem len64_101 (x : Int) (l : Nat) (w : World) (h0 : 0 ≤ x) (h1 : x ≤ 18446744073709551615) (t0 : 4294967296 ≤ x) (t1 : x / 4294967296 < 65536) (t2 : 256 ≤ x / 4294967296) (b0 : 0 ≤ x / 4294967296 / 256) (b1 : x / 4294967296 / 256 ≤ 255) (hl : l ≤ 8) (hL : Lib.len8 (x / 4294967296 / 256) = (l : Int)) :
  Calls Tryz.prog 186 #[.int .u64 x] w fun e w' => e = .returned (.int .i64 (40 + (l : Int))) ∧ w' = w := by
 go_enter Tryz.func186,Tryz.ntmps186
 go_wp2
 go_ret
 exact ⟨ret_int (by omega),rfl⟩
set_option maxRecDepth 100000 in
theorem len64_100 (x : Int) (l : Nat) (w : World) (h0 : 0 ≤ x) (h1 : x ≤ 18446744073709551615) (t0 : 4294967296 ≤ x) (t1 : x / 4294967296 < 65536) (t2 : x / 4294967296 < 256) (b0 : 0 ≤ x / 4294967296) (b1 : x / 4294967296 ≤ 255) (hl : l ≤ 8) (hL : Lib.len8 (x / 4294967296) = (l : Int)) :
  Calls Tryz.prog 186 #[.int .u64 x] w fun e w' => e = .returned (.int .i64 (32 + (l : Int))) ∧ w' = w := by
 go_enter Tryz.func186,Tryz.ntmps186
 go_wp2
 go_ret
 exact ⟨ret_int (by omega),rfl⟩
set_option maxRecDepth 100000 in
theorem len64_011 (x : Int) (l : Nat) (w : World) (h0 : 0 ≤ x) (h1 : x ≤ 18446744073709551615) (t0 : x < 4294967296) (t1 : 65536 ≤ x) (t2 : 256 ≤ x / 65536) (b0 : 0 ≤ x / 65536 / 256) (b1 : x / 65536 / 256 ≤ 255) (hl : l ≤ 8) (hL : Lib.len8 (x / 65536 / 256) = (l : Int)) :
  Calls Tryz.prog 186 #[.int .u64 x] w fun e w' => e = .returned (.int .i64 (24 + (l : Int))) ∧ w' = w := by
 go_enter Tryz.func186,Tryz.ntmps186
 go_wp2
 go_ret
 exact ⟨ret_int (by omega),rfl⟩
set_option maxRecDepth 100000 in
theorem len64_010 (x : Int) (l : Nat) (w : World) (h0 : 0 ≤ x) (h1 : x ≤ 18446744073709551615) (t0 : x < 4294967296) (t1 : 65536 ≤ x) (t2 : x / 65536 < 256) (b0 : 0 ≤ x / 65536) (b1 : x / 65536 ≤ 255) (hl : l ≤ 8) (hL : Lib.len8 (x / 65536) = (l : Int)) :
  Calls Tryz.prog 186 #[.int .u64 x] w fun e w' => e = .returned (.int .i64 (16 + (l : Int))) ∧ w' = w := by
 go_enter Tryz.func186,Tryz.ntmps186
 go_wp2
 go_ret
 exact ⟨ret_int (by omega),rfl⟩
set_option maxRecDepth 100000 in
theorem len64_001 (x : Int) (l : Nat) (w : World) (h0 : 0 ≤ x) (h1 : x ≤ 18446744073709551615) (t0 : x < 4294967296) (t1 : x < 65536) (t2 : 256 ≤ x) (b0 : 0 ≤ x / 256) (b1 : x / 256 ≤ 255) (hl : l ≤ 8) (hL : Lib.len8 (x / 256) = (l : Int)) :
  Calls Tryz.prog 186 #[.int .u64 x] w fun e w' => e = .returned (.int .i64 (8 + (l : Int))) ∧ w' = w := by
 go_enter Tryz.func186,Tryz.ntmps186
 go_wp2
 go_ret
 exact ⟨ret_int (by omega),rfl⟩
set_option maxRecDepth 100000 in
theorem len64_000 (x : Int) (l : Nat) (w : World) (h0 : 0 ≤ x) (h1 : x ≤ 18446744073709551615) (t0 : x < 4294967296) (t1 : x < 65536) (t2 : x < 256) (b0 : 0 ≤ x) (b1 : x ≤ 255) (hl : l ≤ 8) (hL : Lib.len8 (x) = (l : Int)) :
  Calls Tryz.prog 186 #[.int .u64 x] w fun e w' => e = .returned (.int .i64 (0 + (l : Int))) ∧ w' = w := by
 go_enter Tryz.func186,Tryz.ntmps186
 go_wp2
 go_ret
 exact ⟨ret_int (by omega),rfl⟩
theorem len64_any (x : Nat) (w : World) (hx : x < 18446744073709551616) :
  Calls Tryz.prog 186 #[.int .u64 x] w fun e w' => e = .returned (.int .i64 ((Lib.bitLen x : Nat) : Int)) ∧ w' = w := by
 have fin : ∀ (s l : Nat),s + l = Lib.bitLen x → Calls Tryz.prog 186 #[.int .u64 x] w (fun e w' => e = .returned (.int .i64 ((s : Int) + (l : Int))) ∧ w' = w) → Calls Tryz.prog 186 #[.int .u64 x] w fun e w' => e = .returned (.int .i64 ((Lib.bitLen x : Nat) : Int)) ∧ w' = w := by
  intro s l hsl hc
  refine hc.mono ?_
  rintro e w' ⟨rfl,rfl⟩
  exact ⟨ret_int (by omega),rfl⟩
 by_cases t0 : 4294967296 ≤ x
 ·skip
  by_cases t1 : 65536 ≤ x / 4294967296
  ·skip
   by_cases t2 : 256 ≤ x / 4294967296 / 65536
   ·skip
    obtain ⟨l,hl,hL,hsl⟩ := len_byte x 56 hx (.inr (by omega)) (by omega) ((x : Int) / 4294967296 / 65536 / 256) (by omega)
    exact fin 56 l hsl (len64_111 x l w (by omega) (by omega) (by omega) (by omega) (by omega) (by omega) (by omega) hl hL)
   ·skip
    obtain ⟨l,hl,hL,hsl⟩ := len_byte x 48 hx (.inr (by omega)) (by omega) ((x : Int) / 4294967296 / 65536) (by omega)
    exact fin 48 l hsl (len64_110 x l w (by omega) (by omega) (by omega) (by omega) (by omega) (by omega) (by omega) hl hL)
  ·skip
   by_cases t2 : 256 ≤ x / 4294967296
   ·skip
    obtain ⟨l,hl,hL,hsl⟩ := len_byte x 40 hx (.inr (by omega)) (by omega) ((x : Int) / 4294967296 / 256) (by omega)
    exact fin 40 l hsl (len64_101 x l w (by omega) (by omega) (by omega) (by omega) (by omega) (by omega) (by omega) hl hL)
   ·skip
    obtain ⟨l,hl,hL,hsl⟩ := len_byte x 32 hx (.inr (by omega)) (by omega) ((x : Int) / 4294967296) (by omega)
    exact fin 32 l hsl (len64_100 x l w (by omega) (by omega) (by omega) (by omega) (by omega) (by omega) (by omega) hl hL)
 ·skip
  by_cases t1 : 65536 ≤ x
  ·skip
   by_cases t2 : 256 ≤ x / 65536
   ·skip
    obtain ⟨l,hl,hL,hsl⟩ := len_byte x 24 hx (.inr (by omega)) (by omega) ((x : Int) / 65536 / 256) (by omega)
    exact fin 24 l hsl (len64_011 x l w (by omega) (by omega) (by omega) (by omega) (by omega) (by omega) (by omega) hl hL)
   ·skip
    obtain ⟨l,hl,hL,hsl⟩ := len_byte x 16 hx (.inr (by omega)) (by omega) ((x : Int) / 65536) (by omega)
    exact fin 16 l hsl (len64_010 x l w (by omega) (by omega) (by omega) (by omega) (by omega) (by omega) (by omega) hl hL)
  ·skip
   by_cases t2 : 256 ≤ x
   ·skip
    obtain ⟨l,hl,hL,hsl⟩ := len_byte x 8 hx (.inr (by omega)) (by omega) ((x : Int) / 256) (by omega)
    exact fin 8 l hsl (len64_001 x l w (by omega) (by omega) (by omega) (by omega) (by omega) (by omega) (by omega) hl hL)
   ·skip
    obtain ⟨l,hl,hL,hsl⟩ := len_byte x 0 hx (.inl rfl) (by omega) ((x : Int)) (by omega)
    exact fin 0 l hsl (len64_000 x l w (by omega) (by omega) (by omega) (by omega) (by omega) (by omega) (by omega) hl hL)
theorem wrapU (n : Int) : IntKind.u64.wrap n = n % 18446744073709551616 := IntKind.wrap_u64 n
theorem span_any (lo hi : Int) (d : Nat) (w : World) (h0 : -9223372036854775808 ≤ lo) (h1 : hi ≤ 9223372036854775807) (hd : hi = lo + (d : Int)) :
  Calls Tryz.prog 166 #[.int .i64 lo,.int .i64 hi] w fun e w' => e = .returned (.int .u64 (d : Int)) ∧ w' = w := by
 have hle : lo ≤ hi := by omega
 have H : Hid (hi = lo + (d : Int)) := hd
 clear hd
 go_enter Tryz.func166,Tryz.ntmps166
 go_wp2
 go_ret
 refine ⟨ret_int ?_,rfl⟩
 have := H.out
 simp only [wrapU]
 omega
def wid (lo hi : Int) : Nat := if hi < lo then 0 else Lib.bitLen (hi - lo).toNat
theorem width_any (lo hi : Int) (w : World) (h0 : -9223372036854775808 ≤ lo) (h1 : hi ≤ 9223372036854775807) (h2 : lo ≤ 9223372036854775807) (h3 : -9223372036854775808 ≤ hi) :
  Calls Tryz.prog 165 #[.int .i64 lo,.int .i64 hi] w fun e w' => e = .returned (.int .i64 (wid lo hi : Nat)) ∧ w' = w := by
 by_cases h : hi < lo
 ·have e0 : wid lo hi = 0 := by unfold wid; rw [if_pos h]
  rw [e0]
  go_enter Tryz.func165,Tryz.ntmps165
  go_wp2
  go_ret
  exact ⟨rfl,rfl⟩
 ·have e0 : wid lo hi = Lib.bitLen (hi - lo).toNat := by unfold wid; rw [if_neg h]
  obtain ⟨d,hd⟩ : ∃ d : Nat,d = (hi - lo).toNat := ⟨_,rfl⟩
  rw [e0,← hd]
  have H : Hid (hi = lo + (d : Int) ∧ d < 18446744073709551616) := ⟨by omega,by omega⟩
  clear e0 hd
  go_enter Tryz.func165,Tryz.ntmps165
  go_wp2_with fail
  refine (span_any lo hi d w h0 h1 H.out.1).mono ?_
  rintro e w' ⟨rfl,rfl⟩
  go_wp2_with fail
  refine (len64_any d _ H.out.2).mono ?_
  rintro e w' ⟨rfl,rfl⟩
  go_wp2
  go_ret
  exact ⟨rfl,rfl⟩
def grp (v : Nat) : Nat := max 1 ((Lib.bitLen v + 3) / 4)
theorem bitLen_64 (v : Nat) (h : v < 18446744073709551616) : Lib.bitLen v ≤ 64 := Lib.bitLen_le v 64 (by decide) h
theorem groups_any (v : Nat) (w : World) (hv : v < 18446744073709551616) :
  Calls Tryz.prog 179 #[.int .u64 v] w fun e w' => e = .returned (.int .i64 (grp v : Nat)) ∧ w' = w := by
 have hb := bitLen_64 v hv
 have HG : Hid (((grp v : Nat) : Int) = max 1 ((((Lib.bitLen v : Nat) : Int) + 4 - 1) / 4)) := by show _ = _; unfold grp; omega
 go_enter Tryz.func179,Tryz.ntmps179
 go_wp2_with fail
 refine (len64_any v w hv).mono ?_
 generalize Lib.bitLen v = l at *
 rintro e w' ⟨rfl,rfl⟩
 go_wp2
 go_ret
 exact ⟨ret_int HG.out.symm,rfl⟩
theorem xor_ones (a : Nat) (ha : a < 18446744073709551616) : a ^^^ 18446744073709551615 = 18446744073709551615 - a := by
 have h := BitVec.toNat_xor (BitVec.ofNat 64 a) (BitVec.allOnes 64)
 rw [BitVec.xor_allOnes,BitVec.toNat_not,BitVec.toNat_allOnes,BitVec.toNat_ofNat,Nat.mod_eq_of_lt ha] at h
 exact h.symm
theorem u64_xor_ones (a : Nat) (ha : a < 18446744073709551616) : bits .xor .u64 (a : Int) 18446744073709551615 = 18446744073709551615 - (a : Int) := by
 have h := u64_xor_nat a 18446744073709551615 ha (by decide)
 rw [xor_ones a ha] at h
 have e : ((18446744073709551615 : Nat) : Int) = 18446744073709551615 := rfl
 rw [e] at h
 rw [h]; omega
theorem u64_xor_zero (a : Nat) (ha : a < 18446744073709551616) : bits .xor .u64 (a : Int) 0 = (a : Int) := by
 have h := u64_xor_nat a 0 ha (by decide)
 simpa using h
def zig (n : Int) : Nat := if n < 0 then (-2 * n - 1).toNat else (2 * n).toNat
theorem zig_any (n : Int) (w : World) (h0 : -9223372036854775808 ≤ n) (h1 : n ≤ 9223372036854775807) :
  Calls Tryz.prog 262 #[.int .i64 n] w fun e w' => e = .returned (.int .u64 (zig n : Nat)) ∧ w' = w := by
 by_cases h : n < 0
 ·have e : zig n = (-2 * n - 1).toNat := by unfold zig; rw [if_pos h]
  rw [e]
  go_enter Tryz.func262,Tryz.ntmps262
  go_wp2
  go_ret
  refine ⟨ret_int ?_,rfl⟩
  have e1 : IntKind.u64.wrap (IntKind.u64.wrap n * 2) = (((18446744073709551616 + 2 * n).toNat : Nat) : Int) := by simp only [wrapU]; omega
  have e2 : IntKind.u64.wrap (n / 9223372036854775808) = 18446744073709551615 := by simp only [wrapU]; omega
  rw [e1,e2,u64_xor_ones _ (by omega)]
  omega
 ·have e : zig n = (2 * n).toNat := by unfold zig; rw [if_neg h]
  have h' : 0 ≤ n := by omega
  rw [e]
  clear e
  go_enter Tryz.func262,Tryz.ntmps262
  go_wp2
  go_ret
  refine ⟨ret_int ?_,rfl⟩
  have e1 : n * 2 = (((n * 2).toNat : Nat) : Int) := by omega
  have e2 : n / 9223372036854775808 = 0 := by omega
  rw [e2,e1,u64_xor_zero _ (by omega)]
  omega
end Go.Proofs.YtgifeckbflkkpaaGreatDoor
