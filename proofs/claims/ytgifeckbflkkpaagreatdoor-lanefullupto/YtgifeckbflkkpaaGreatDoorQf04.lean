/- Same of the document's side: two slices of the same bytes are alike. -/
import Derived.Test.YtgifeckbflkkpaaGreatDoorQf03
import Derived.Laws.BytesString
import Derived.Test.YtgifeckbflkkpaaGreatDoorTie
import Derived.Test.YtgifeckbflkkpaaGreatDoorCards
import Derived.ProofKit
import Derived.OpenShut
import Derived.LaidMore
import Derived.SevenTiedAt
import Derived.Stop.Joined
namespace Go.Proofs.YtgifeckbflkkpaaGreatDoor
open Go.RowKit
set_option linter.unusedVariables false
set_option maxHeartbeats 400000
def bstr (P : List Nat) : ByteArray := (P.map (fun (n : Nat) => (n : Int))).foldl (fun r n => r.push (UInt8.ofNat n.toNat)) ByteArray.empty
theorem conv_src (w : World) (ao : Option Addr) (n c : Nat) (P : List Nat) (h : Src w (.slice ao n c) P.length (vrow P)) : (convert 22 9 (.slice ao n c)).run Tryz.prog w = .ok (.string (bstr P)) w := by
 rw [run_convert_bytes_string w 22 9 5 ao n c Tryz.underlying22 Tryz.underlying5 Tryz.underlying9]
 rcases h with ⟨h0,h1,h2⟩ | ⟨a,cap,h0,h1,h2⟩
 ·cases h0
  have : P = [] := List.eq_nil_of_length_eq_zero h1
  subst this
  simp [Conv.bytesToString,bstr]
 ·cases h0
  refine run_bytesToString w a P.length c (P.map (fun (n : Nat) => (n : Int))) ?_
  have e : (P.map (fun (n : Nat) => (n : Int))).map (Value.int .u8) = vrow P := by simp [vrow]
  rw [e,← length_vrow P]
  exact run_loadCells_list w a (vrow P) h2
theorem same_any (w : World) (a b : Value) (P : List Nat) (ha : Src w a P.length (vrow P)) (hb : Src w b P.length (vrow P)) :
  Calls Tryz.prog 17 #[a,b] w fun e w' => e = .returned (.bool true) ∧ w' = w := by
 obtain ⟨aa,an,ac,rfl⟩ : ∃ aa an ac,a = .slice aa an ac := by
  rcases ha with ⟨rfl,_⟩ | ⟨_,_,rfl,_⟩ <;> exact ⟨_,_,_,rfl⟩
 obtain ⟨ba,bn,bc,rfl⟩ : ∃ aa an ac,b = .slice aa an ac := by
  rcases hb with ⟨rfl,_⟩ | ⟨_,_,rfl,_⟩ <;> exact ⟨_,_,_,rfl⟩
 have ca := conv_src w aa an ac P ha
 have cb := conv_src w ba bn bc P hb
 clear ha hb
 generalize bstr P = s at *
 have hs : (s.toList == s.toList) = true := by simp
 go_enter Tryz.func17,Tryz.ntmps17
 go_wp2
 go_ret
 exact ⟨rfl,rfl⟩
theorem Wr.lowAt {B : Nat} {w : World} {b : Nat} {g : Option Nat} {L : List Bool} (h : Wr B w b g L) : ∀ k,At b g k → B ≤ k := by
 rintro k (rfl | e)
 ·exact h.low
 ·exact h.glow k e.symm
theorem Rd.lowAt {B : Nat} {w : World} {b : Nat} {g : Option Nat} {P : List Nat} {t : Nat} (h : Rd B w b g P t) : ∀ k,At b g k → B ≤ k := by
 rintro k (rfl | e)
 ·exact h.low
 ·exact h.glow k e.symm
def Ow (w0 w : World) (b : Nat) (L : List Bool) : Prop := ∃ g,Wr w0.heap.size w b g L ∧ Fr Nobody w0 w
def Or (w0 w : World) (b : Nat) (P : List Nat) (t : Nat) : Prop := ∃ g,Rd w0.heap.size w b g P t ∧ Fr Nobody w0 w
theorem Ow.quiet {w0 w w' : World} {b : Nat} {L : List Bool} (h : Ow w0 w b L) (hf : Fr Nobody w w') : Ow w0 w' b L := by
 obtain ⟨g,hW,hF⟩ := h
 exact ⟨g,hW.quiet hf,hF.trans hf⟩
theorem Or.quiet {w0 w w' : World} {b : Nat} {P : List Nat} {t : Nat} (h : Or w0 w b P t) (hf : Fr Nobody w w') : Or w0 w' b P t := by
 obtain ⟨g,hW,hF⟩ := h
 exact ⟨g,hW.quiet hf,hF.trans hf⟩
theorem Ow.fr {w0 w : World} {b : Nat} {L : List Bool} (h : Ow w0 w b L) : Fr Nobody w0 w := by
 obtain ⟨g,hW,hF⟩ := h
 exact hF
theorem Or.fr {w0 w : World} {b : Nat} {P : List Nat} {t : Nat} (h : Or w0 w b P t) : Fr Nobody w0 w := by
 obtain ⟨g,hW,hF⟩ := h
 exact hF
theorem new_ow (w0 w : World) (hf : Fr Nobody w0 w) : Calls Tryz.prog 84 #[] w fun e w' => ∃ b,e = .returned (.pointer (some ⟨b,0,none⟩)) ∧ w.heap.size ≤ b ∧ Ow w0 w' b [] := by
 refine (new_any w0.heap.size w hf.size).mono ?_
 rintro e w' ⟨b,rfl,hb,hW,hF⟩
 exact ⟨b,rfl,hb,none,hW,hf.trans hF⟩
end Go.Proofs.YtgifeckbflkkpaaGreatDoor
namespace Go.Proofs.YtgifeckbflkkpaaGreatDoor
open Go.ChangeShapes Go.WideShapes Go.ChangeAt Go.WideMaps Go.WideElems Go.RowKit
set_option linter.unusedVariables false
set_option maxHeartbeats 400000
set_option maxRecDepth 100000
def kinds : List (List UInt8 × Bool × Nat × List (List UInt8 × Int × Int)) :=
 [([112,111,115],true,2,[([120],-524288,524287),([121],-524288,524287),([],0,0)]),
  ([118,101,108],true,2,[([100,120],-32768,32767),([100,121],-32768,32767),([],0,0)]),
  ([108,105,102,101],true,1,[([108,101,102,116],0,4095),([],0,0),([],0,0)]),
  ([98,111,100,121],true,3,[([115,104,97,112,101],0,15),([104,112],0,1000),([115,105,122,101],1,100)]),
  ([116,97,103],true,3,[([116,101,97,109],0,7),([99,111,108,111,114],0,255),([102,108,97,103,115],0,31)]),
  ([115,112,97,119,110],false,3,[([101,118,101,114,121],1,255),([108,101,102,116],0,254),([115,104,97,112,101],0,15)])]
def kname (k : Nat) : List UInt8 := (kinds[k]?.map (·.1)).getD []
def ktold (k : Nat) : Bool := (kinds[k]?.map (·.2.1)).getD false
def cnt (k : Nat) : Nat := (kinds[k]?.map (·.2.2.1)).getD 0
def fld (k j : Nat) : List UInt8 × Int × Int := ((kinds[k]?.map (·.2.2.2)).getD [])[j]?.getD ([],0,0)
def fname (k j : Nat) : List UInt8 := (fld k j).1
def lo (k j : Nat) : Int := (fld k j).2.1
def hi (k j : Nat) : Int := (fld k j).2.2
def bstr5 (l : List UInt8) : ByteArray := ⟨l.toArray⟩
def fldData {H : Type} (f : List UInt8 × Int × Int) : DataW H := .agg [.lit (.string f.1),.lit (.int .i32 f.2.1),.lit (.int .i32 f.2.2)]
def kindData {H : Type} (r : List UInt8 × Bool × Nat × List (List UInt8 × Int × Int)) : DataW H := .agg [.lit (.string r.1),.lit (.bool r.2.1),.lit (.int .i64 (r.2.2.1 : Int)),.agg (r.2.2.2.map fldData)]
theorem laid_kinds {H : Type} : (Rows.laid_pinnace_schema_rows : DataW H) = .agg (kinds.map kindData) := rfl
theorem own : ownKnob Tryz.prog.godebug = none := by kernel_rfl
theorem gRows : Tryz.prog.globalNamed "pinnace/schema.rows" = some 1 := by kernel_rfl
theorem tRows : (Tryz.prog.globals[1]?).map (·.type) = some 263 := by kernel_rfl
def laid1 {H : Type} : List (String × DataW H) := [("pinnace/frame.steps",Rows.laid_pinnace_frame_steps),("pinnace/schema.rows",Rows.laid_pinnace_schema_rows)]
structure Tab (w : World) : Prop where
 nm : ∀ k,k < 6 → w.cell? ⟨1,k * 12,none⟩ = some (.string (bstr5 (kname k)))
 told : ∀ k,k < 6 → w.cell? ⟨1,k * 12 + 1,none⟩ = some (.bool (ktold k))
 cnt : ∀ k,k < 6 → w.cell? ⟨1,k * 12 + 2,none⟩ = some (.int .i64 (cnt k : Int))
 fnm : ∀ k j,k < 6 → j < 3 → w.cell? ⟨1,k * 12 + 3 + j * 3,none⟩ = some (.string (bstr5 (fname k j)))
 lo : ∀ k j,k < 6 → j < 3 → w.cell? ⟨1,k * 12 + 3 + j * 3 + 1,none⟩ = some (.int .i32 (lo k j))
 hi : ∀ k j,k < 6 → j < 3 → w.cell? ⟨1,k * 12 + 3 + j * 3 + 2,none⟩ = some (.int .i32 (hi k j))
theorem Tab.keep {S : Nat → Prop} {w w' : World} (h : Tab w) (hf : Fr S w w') (hs : ¬ S 1) : Tab w' := by
 have key : ∀ (o : Nat) (v : Value),w.cell? ⟨1,o,none⟩ = some v → w'.cell? ⟨1,o,none⟩ = some v := fun o v hv => (hf.cell (p := ⟨1,o,none⟩) (World.block_lt_of_cell? w _ hv) hs).trans hv
 exact ⟨fun k hk => key _ _ (h.nm k hk),fun k hk => key _ _ (h.told k hk),fun k hk => key _ _ (h.cnt k hk),fun k j hk hj => key _ _ (h.fnm k j hk hj),fun k j hk hj => key _ _ (h.lo k j hk hj),fun k j hk hj => key _ _ (h.hi k j hk hj)⟩
theorem Tab.quiet {w w' : World} (h : Tab w) (hf : Fr Nobody w w') : Tab w' := h.keep hf id
theorem Tab.size {w : World} (h : Tab w) : 1 < w.heap.size := World.block_lt_of_cell? w _ (h.nm 0 (by decide))
theorem sub_cell {α : Type} {cs l : List α} {a n j : Nat} (h : ((cs.drop a).take n) = l) (hj : j < n) : cs[a + j]? = l[j]? := by
 subst h
 rw [List.getElem?_take,if_pos hj,List.getElem?_drop]
theorem fld_len (k : Nat) (hk : k < 6) : ((kinds[k]?.map (·.2.2.2)).getD []).length = 3 := by
 have : k = 0 ∨ k = 1 ∨ k = 2 ∨ k = 3 ∨ k = 4 ∨ k = 5 := by omega
 rcases this with rfl | rfl | rfl | rfl | rfl | rfl <;> rfl
theorem str_of {s : ByteArray} {l : List UInt8} (h : l = s.data.toList) : s = bstr5 l := by
 subst h; rfl
theorem fld_cells {H : Type} {enc : TypeId × Value → H} {w : World} {base : Nat} {spare : Nat → Bool} {held : Bool} {fuel : Nat} {cs : List Value} {f : List UInt8 × Int × Int} {p : List MemPlace}
  (h : DataW.trod enc Tryz.prog w base spare held fuel 259 cs = some (fldData f,p)) : cs = [.string (bstr5 f.1),.int .i32 f.2.1,.int .i32 f.2.2] := by
 obtain ⟨xs,n,_,hx,hl,hlen,hf⟩ := DataW.trod_struct Tryz.underlying259 h
 have cS : Tryz.prog.cellsOf 9 = 1 := by kernel_rfl
 have cI : Tryz.prog.cellsOf 21 = 1 := by kernel_rfl
 have cF : Tryz.prog.cellsOf 259 = 3 := by kernel_rfl
 rw [cF] at hl
 match cs,hl with
 | [c0,c1,c2],_ =>
 match xs,hlen with
 | [y0,y1,y2],_ =>
  have h0 := hf 0 _ rfl
  have h1 := hf 1 _ rfl
  have h2 := hf 2 _ rfl
  simp [cS,cI] at h0 h1 h2
  obtain ⟨s,e0,e0',_⟩ := DataW.trod_string Tryz.underlying9 h0
  obtain ⟨a,e1,e1',_⟩ := DataW.trod_int Tryz.underlying21 h1
  obtain ⟨b,e2,e2',_⟩ := DataW.trod_int Tryz.underlying21 h2
  subst e0' e1' e2'
  simp [fldData] at hx e0 e1 e2
  obtain ⟨⟨hs,ha,hb⟩,_⟩ := hx
  subst e0 e1 e2
  rw [str_of hs,← ha,← hb]
theorem getElem?_fld (k j : Nat) (hk : k < 6) (hj : j < 3) : ((kinds[k]?.map (·.2.2.2)).getD [])[j]? = some (fld k j) := by
 have hl := fld_len k hk
 unfold fld
 rw [List.getElem?_eq_getElem (by rw [hl]; exact hj)]
 rfl
theorem of_laid {W : World} (h : laidMetH Tryz.prog laid1 W) : Tab W := by
 rw [MakeChecks.laidMetH_plain _ _ _ (by kernel_rfl)] at h
 obtain ⟨ps,⟨_,_,_,_,_,_,_,_,_,_,⟨g0,t0,cs0,f0,p0,q0,hg0,ht0,hv0,hd0,_,_⟩,_⟩,_,_⟩ := h
 obtain rfl := Option.some.inj (gRows.symm.trans hg0)
 obtain rfl := Option.some.inj (tRows.symm.trans ht0)
 obtain ⟨xs,m1,hx0,hx1,hlen,hn3,hel⟩ := DataW.trod_array Tryz.underlying263 hd0
 have cR : Tryz.prog.cellsOf 262 = 12 := by kernel_rfl
 have cS : Tryz.prog.cellsOf 9 = 1 := by kernel_rfl
 have cI : Tryz.prog.cellsOf 3 = 1 := by kernel_rfl
 have cBo : Tryz.prog.cellsOf 4 = 1 := by kernel_rfl
 have cF : Tryz.prog.cellsOf 259 = 3 := by kernel_rfl
 have cFs : Tryz.prog.cellsOf 260 = 9 := by kernel_rfl
 simp only [Prod.mk.injEq,laid_kinds,DataW.agg.injEq] at hx1
 have main : ∀ k,k < 6 → ∃ r,kinds[k]? = some r ∧ ∃ l : List Value,(cs0.toList.drop (k * 12)).take 12 = l ∧ l[0]? = some (.string (bstr5 r.1)) ∧ l[1]? = some (.bool r.2.1) ∧ l[2]? = some (.int .i64 (r.2.2.1 : Int)) ∧ ∀ j f,j < 3 → r.2.2.2[j]? = some f → (l.drop (3 + j * 3)).take 3 = [.string (bstr5 f.1),.int .i32 f.2.1,.int .i32 f.2.2] := by
  intro k hk
  have h0 := hel k hk
  have hxi : xs[k]? = some xs[k] := List.getElem?_eq_getElem (by rw [hn3]; exact hk)
  have hkk : kinds[k]? = some kinds[k] := List.getElem?_eq_getElem hk
  refine ⟨kinds[k],hkk,_,rfl,?_⟩
  rw [cR] at h0
  generalize hl : (cs0.toList.drop (k * 12)).take 12 = l at *
  have hd : kindData (H := Unit) kinds[k] = (xs[k]).1 := by
   have h1 : (kinds.map (kindData (H := Unit)))[k]? = some (kindData kinds[k]) := by rw [List.getElem?_map,hkk]; rfl
   rw [hx1.1,List.getElem?_map,hxi] at h1
   simpa using h1.symm
  generalize kinds[k] = r at *
  obtain ⟨ys,n,_,hy,hyl,hylen,hf⟩ := DataW.trod_struct Tryz.underlying262 (h0.trans hxi)
  rw [cR] at hyl
  match l,hyl with
  | [c0,c1,c2,c3,c4,c5,c6,c7,c8,c9,c10,c11],_ =>
  match ys,hylen with
  | [y0,y1,y2,y3],_ =>
   have h0 := hf 0 _ rfl
   have h1 := hf 1 _ rfl
   have h2 := hf 2 _ rfl
   have h3 := hf 3 _ rfl
   simp [cS,cI,cBo,cFs] at h0 h1 h2 h3
   obtain ⟨s,e0,e0',_⟩ := DataW.trod_string Tryz.underlying9 h0
   obtain ⟨a,e1,e1'⟩ := DataW.trod_bool Tryz.underlying4 h1
   obtain ⟨b,e2,e2',_⟩ := DataW.trod_int Tryz.underlying3 h2
   obtain ⟨zs,m2,hz0,hz1,hzlen,hz3,hzel⟩ := DataW.trod_array Tryz.underlying260 h3
   rw [hy] at hd
   subst e0' e1' e2'
   simp [kindData] at hd e0 e1 e2
   obtain ⟨hs,ha,hb,hfs⟩ := hd
   subst e0 e1 e2
   refine ⟨by rw [str_of hs]; rfl,by rw [ha]; rfl,by rw [hb]; rfl,?_⟩
   intro j f hj hjf
   have hzj := hzel j hj
   have hzi : zs[j]? = some zs[j] := List.getElem?_eq_getElem (by rw [hz3]; exact hj)
   rw [cF,hzi] at hzj
   have hdat : (zs[j]).1 = fldData f := by
    have h1 : (r.2.2.2.map (fldData (H := Unit)))[j]? = some (fldData f) := by rw [List.getElem?_map,hjf]; rfl
    simp only [hz1,DataW.agg.injEq] at hfs
    rw [hfs,List.getElem?_map,hzi] at h1
    simpa using h1
   have hz' : zs[j] = (fldData f,(zs[j]).2) := by rw [← hdat]
   rw [hz'] at hzj
   have := fld_cells hzj
   rw [← this,← List.drop_drop]
   simp
 have cellOf : ∀ (o : Nat) (v : Value),cs0.toList[o]? = some v → W.cell? ⟨1,o,none⟩ = some v := fun o v hv => by
  rw [World.var?_cell hg0 hv0 o,← Array.getElem?_toList]; exact hv
 have pre : ∀ k o v,k < 6 → o < 12 → ((cs0.toList.drop (k * 12)).take 12)[o]? = some v → W.cell? ⟨1,k * 12 + o,none⟩ = some v := fun k o v hk ho hv => by
  apply cellOf
  rw [List.getElem?_take,if_pos ho,List.getElem?_drop] at hv
  exact hv
 refine ⟨fun k hk => ?_,fun k hk => ?_,fun k hk => ?_,fun k j hk hj => ?_,fun k j hk hj => ?_,fun k j hk hj => ?_⟩
 all_goals obtain ⟨r,hr,l,hl,l0,l1,l2,l3⟩ := main k hk
 ·rw [← hl] at l0; have := pre k 0 _ hk (by decide) l0
  simpa [kname,hr] using this
 ·rw [← hl] at l1; have := pre k 1 _ hk (by decide) l1
  simpa [ktold,hr] using this
 ·rw [← hl] at l2; have := pre k 2 _ hk (by decide) l2
  simpa [Go.Proofs.YtgifeckbflkkpaaGreatDoor.cnt,hr] using this
 all_goals
  have hfj := getElem?_fld k j hk hj
  rw [hr] at hfj
  have h3 := l3 j _ hj hfj
  rw [← hl] at h3
 ·have := pre k (3 + j * 3 + 0) _ hk (by omega) (by rw [sub_cell h3 (by decide)]; rfl)
  rw [Nat.add_assoc]; exact this
 ·have := pre k (3 + j * 3 + 1) _ hk (by omega) (by rw [sub_cell h3 (by decide)]; rfl)
  rw [Nat.add_assoc,Nat.add_assoc]; exact this
 ·have := pre k (3 + j * 3 + 2) _ hk (by omega) (by rw [sub_cell h3 (by decide)]; rfl)
  rw [Nat.add_assoc,Nat.add_assoc]; exact this
end Go.Proofs.YtgifeckbflkkpaaGreatDoor
