/- bytes.Clone, and Bytes and Read of package bits. -/
import Derived.Test.YtgifeckbflkkpaaGreatDoorQp02
import Derived.Laws.BytesString
import Derived.Test.YtgifeckbflkkpaaGreatDoorTie
import Derived.Test.YtgifeckbflkkpaaGreatDoorCards
import Derived.ProofKit
import Derived.OpenShut
import Derived.LaidMore
import Derived.SevenTiedAt
import Derived.Stop.Joined
namespace Go.Proofs.YtgifeckbflkkpaaGreatDoor
open Go.RowKit
set_option linter.unusedVariables false
set_option maxHeartbeats 400000
def Src (w : World) (v : Value) (n : Nat) (xs : List Value) : Prop :=
 (v = .slice none 0 0 ∧ n = 0 ∧ xs = []) ∨ ∃ a cap,v = .slice (some a) n cap ∧ xs.length = n ∧ ∀ j u,xs[j]? = some u → w.cell? (a.add j) = some u
theorem Src.of_row {w : World} {e : TypeId} {v : Value} {n : Nat} {xs : List Value} (h : w.ownsRow 0 e 1 v n xs) : Src w v n xs := by
 have hl := h.1
 rcases h.2 with ⟨rfl,rfl⟩ | ⟨g,cap,cur,rfl,_⟩
 ·left; exact ⟨rfl,rfl,List.eq_nil_of_length_eq_zero (by rw [hl,Nat.zero_mul])⟩
 ·right; exact ⟨_,_,rfl,by rw [hl,Nat.mul_one],h.cells rfl⟩
theorem clone_nil (w : World) : Calls Tryz.prog 91 #[.slice none 0 0] w fun e w' => e = .returned (.slice none 0 0) ∧ w' = w := by
 have qn : ∀ (w : World) (a : Option Addr) (n c n' c' : Nat),(binOp .eql 22 (.slice a n c) (.slice none n' c')).run Tryz.prog w = .ok (.bool a.isNone) w := fun w a n c n' c' => Lib.run_eql_slice_nil w _ _ a n c n' c' Tryz.underlying22
 go_enter Tryz.func91,Tryz.ntmps91
 go_wp2
 go_ret
 exact ⟨rfl,rfl⟩
theorem clone_some (w : World) (a : Addr) (n cap : Nat) (xs : List Value) (hl : xs.length = n) (hc : ∀ j u,xs[j]? = some u → w.cell? (a.add j) = some u) (h1 : ∀ u ∈ xs,u.oneCell' = true) (hn : n ≤ 140737488351232) :
  Calls Tryz.prog 91 #[.slice (some a) n cap] w fun e w' => ∃ v',e = .returned v' ∧ w'.ownsRow 0 5 1 v' n xs ∧ Fr Nobody w w' ∧ (∀ k,v'.ownBlock = some k → w.heap.size ≤ k) := by
 obtain ⟨i0,hi,hz0,hz1,hz2⟩ := info_parts Tryz.infoB
 have qn : ∀ (w : World) (a : Option Addr) (n c n' c' : Nat),(binOp .eql 22 (.slice a n c) (.slice none n' c')).run Tryz.prog w = .ok (.bool a.isNone) w := fun w a n c n' c' => Lib.run_eql_slice_nil w _ _ a n c n' c' Tryz.underlying22
 go_enter Tryz.func91,Tryz.ntmps91
 go_wp2_with (at_builtin; refine wpList_append_own _ rfl _ _ 22 rfl w.heap.size 5 i0 (.int .u8 0) 1 1 Tryz.underlying22 hi hz0 hz1 hz2 rfl (by decide) _ _ _ rfl (World.ownsRow_made w #[] 0 (Nat.le_refl _) (Nat.zero_le _) rfl) a n cap xs rfl (by omega) (fun j u hj => Lib.cell?_alloc_some _ (hc j u hj)) h1 (by unfold maxLen; omega) (by omega) (by simp) ?_)
 intro v' w1 hown hgrow hnil
 go_wp2
 go_ret
 have hown' : w1.ownsRow w.heap.size 5 1 v' n xs := by simpa using hown
 refine ⟨v',rfl,row_weak hown',?_,fun k hk => (hown'.lt k hk).1⟩
 exact ((Fr.refl _ w).alloc _).grown hgrow (by intro k hk; simp [Value.ownBlock] at hk; omega)
theorem clone_any (w : World) (v : Value) (n : Nat) (xs : List Value) (h : Src w v n xs) (h1 : ∀ u ∈ xs,u.oneCell' = true) (hn : n ≤ 140737488351232) :
  Calls Tryz.prog 91 #[v] w fun e w' => ∃ v',e = .returned v' ∧ w'.ownsRow 0 5 1 v' n xs ∧ Fr Nobody w w' ∧ (∀ k,v'.ownBlock = some k → w.heap.size ≤ k) := by
 rcases h with ⟨rfl,rfl,rfl⟩ | ⟨a,cap,rfl,hl,hc⟩
 ·refine (clone_nil w).mono ?_
  rintro e w' ⟨rfl,rfl⟩
  exact ⟨_,rfl,World.ownsRow_nil _ _ _ _,Fr.refl _ _,fun k hk => by simp [Value.ownBlock] at hk⟩
 ·exact clone_some w a n cap xs hl hc h1 hn
theorem bytes_any (B : Nat) (w : World) (b : Nat) (g : Option Nat) (L : List Bool) (h : Wr B w b g L) (hl : L.length ≤ 1048576) :
  Calls Tryz.prog 88 #[.pointer (some ⟨b,0,none⟩)] w fun e w' => ∃ v',e = .returned v' ∧ w'.ownsRow 0 5 1 v' (nb L.length) (vrow (pack L)) ∧ Fr Nobody w w' ∧ (∀ k,v'.ownBlock = some k → w.heap.size ≤ k) := by
 obtain ⟨v,hb,hown,hv⟩ := h.obj
 have c0 := cell0 hb
 have H : Hid (Src w v (nb L.length) (vrow (pack L))) := Src.of_row hown
 have hnb : nb L.length ≤ 140737488351232 := by unfold nb; omega
 clear hb h hown hv
 go_enter Tryz.func88,Tryz.ntmps88
 go_wp2_with fail
 refine (clone_any w v _ _ H.out (one_vrow _) hnb).mono ?_
 rintro e w1 ⟨v',rfl,ho,hf,hk⟩
 have HH : Hid (w1.ownsRow 0 5 1 v' (nb L.length) (vrow (pack L)) ∧ Fr Nobody w w1 ∧ (∀ k,v'.ownBlock = some k → w.heap.size ≤ k)) := ⟨ho,hf,hk⟩
 clear ho hf hk
 go_wp2
 go_ret
 exact ⟨v',rfl,HH.out⟩
def bitsB (P : List Nat) : List Bool := P.flatMap (bitsN 8)
theorem length_bitsB (P : List Nat) : (bitsB P).length = 8 * P.length := by
 induction P with
 | nil => rfl
 | cons p P ih => rw [bitsB,List.flatMap_cons,List.length_append,length_bitsN]; rw [bitsB] at ih; rw [ih,List.length_cons]; omega
theorem getElem?_bitsN (n v i : Nat) : (bitsN n v)[i]? = if i < n then some (v / 2 ^ i % 2 == 1) else none := by
 induction n generalizing v i with
 | zero => simp [bitsN]
 | succ n ih =>
  rw [bitsN]
  cases i with
  | zero => simp
  | succ i => rw [List.getElem?_cons_succ,ih,Nat.div_div_eq_div_mul,← Nat.pow_succ']; simp
theorem getElem?_bitsB (P : List Nat) (i : Nat) : (bitsB P)[i]? = (P[i / 8]?).map (fun (x : Nat) => (x / 2 ^ (i % 8) % 2 == 1)) := by
 induction P generalizing i with
 | nil => simp [bitsB]
 | cons p P ih =>
  rw [bitsB,List.flatMap_cons]
  by_cases h : i < 8
  ·rw [List.getElem?_append_left (by rw [length_bitsN]; exact h),getElem?_bitsN,if_pos h]
   have h0 : i / 8 = 0 := by omega
   have h1 : i % 8 = i := by omega
   rw [h0,h1]; rfl
  ·rw [List.getElem?_append_right (by rw [length_bitsN]; omega),length_bitsN]
   have := ih (i - 8)
   rw [bitsB] at this
   rw [this]
   have h0 : i / 8 = (i - 8) / 8 + 1 := by omega
   have h1 : i % 8 = (i - 8) % 8 := by omega
   rw [h0,h1,List.getElem?_cons_succ]
theorem oct (b0 b1 b2 b3 b4 b5 b6 b7 : Nat) (h0 : b0 ≤ 1) (h1 : b1 ≤ 1) (h2 : b2 ≤ 1) (h3 : b3 ≤ 1) (h4 : b4 ≤ 1) (h5 : b5 ≤ 1) (h6 : b6 ≤ 1) (h7 : b7 ≤ 1) (s : Nat)
  (e : s = b0 + 2 * b1 + 4 * b2 + 8 * b3 + 16 * b4 + 32 * b5 + 64 * b6 + 128 * b7) :
  s % 2 = b0 ∧ s / 2 % 2 = b1 ∧ s / 4 % 2 = b2 ∧ s / 8 % 2 = b3 ∧ s / 16 % 2 = b4 ∧ s / 32 % 2 = b5 ∧ s / 64 % 2 = b6 ∧ s / 128 % 2 = b7 := by
 have e1 : s / 2 = b1 + 2 * b2 + 4 * b3 + 8 * b4 + 16 * b5 + 32 * b6 + 64 * b7 := by omega
 have e2 : s / 4 = b2 + 2 * b3 + 4 * b4 + 8 * b5 + 16 * b6 + 32 * b7 := by omega
 have e3 : s / 8 = b3 + 2 * b4 + 4 * b5 + 8 * b6 + 16 * b7 := by omega
 have e4 : s / 16 = b4 + 2 * b5 + 4 * b6 + 8 * b7 := by omega
 have e5 : s / 32 = b5 + 2 * b6 + 4 * b7 := by omega
 have e6 : s / 64 = b6 + 2 * b7 := by omega
 have e7 : s / 128 = b7 := by omega
 rw [e1,e2,e3,e4,e5,e6,e7]
 refine ⟨by omega,by omega,by omega,by omega,by omega,by omega,by omega,by omega⟩
theorem bitsB_pack (L : List Bool) : bitsB (pack L) = L ++ List.replicate (8 * nb L.length - L.length) false := by
 apply List.ext_getElem?
 intro i
 rw [getElem?_bitsB,getElem?_pack]
 by_cases h : i / 8 < nb L.length
 ·rw [if_pos h,Option.map_some]
  have key : byteAt L (i / 8) / 2 ^ (i % 8) % 2 = bt L i := by
   have e : i = 8 * (i / 8) + i % 8 := by omega
   have hm : i % 8 < 8 := Nat.mod_lt _ (by decide)
   generalize i / 8 = q at *
   generalize i % 8 = r at *
   subst e
   obtain ⟨o0,o1,o2,o3,o4,o5,o6,o7⟩ := oct _ _ _ _ _ _ _ _ (bt_le L (8 * q)) (bt_le L (8 * q + 1)) (bt_le L (8 * q + 2)) (bt_le L (8 * q + 3)) (bt_le L (8 * q + 4)) (bt_le L (8 * q + 5)) (bt_le L (8 * q + 6)) (bt_le L (8 * q + 7)) (byteAt L q) rfl
   have c : r = 0 ∨ r = 1 ∨ r = 2 ∨ r = 3 ∨ r = 4 ∨ r = 5 ∨ r = 6 ∨ r = 7 := by omega
   rcases c with rfl | rfl | rfl | rfl | rfl | rfl | rfl | rfl
   ·simpa using o0
   ·simpa using o1
   ·simpa using o2
   ·simpa using o3
   ·simpa using o4
   ·simpa using o5
   ·simpa using o6
   ·simpa using o7
  rw [key]
  unfold bt
  by_cases hl : i < L.length
  ·rw [List.getElem?_append_left hl,List.getElem?_eq_getElem hl]
   simp only [Option.getD_some]
   cases L[i] <;> rfl
  ·rw [List.getElem?_eq_none (by omega),List.getElem?_append_right (by omega),List.getElem?_replicate]
   unfold nb at *
   rw [if_pos (by omega)]; rfl
 ·rw [if_neg h,Option.map_none,List.getElem?_eq_none]
  rw [List.length_append,List.length_replicate]
  unfold nb at *; omega
structure Rd (B : Nat) (w : World) (b : Nat) (g : Option Nat) (P : List Nat) (t : Nat) : Prop where
 low : B ≤ b
 glow : ∀ k,g = some k → B ≤ k
 ne : g ≠ some b
 byt : ∀ x ∈ P,x < 256
 len : P.length ≤ 1048576
 le : t ≤ 8 * P.length
 obj : ∃ v,w.heap[b]? = some (.cells #[v,.int .i64 (t : Int)] 220 (0,0)) ∧ w.ownsRow 0 5 1 v P.length (vrow P) ∧ v.ownBlock = g
theorem Rd.lt {B : Nat} {w : World} {b : Nat} {g : Option Nat} {P : List Nat} {t : Nat} (h : Rd B w b g P t) : b < w.heap.size := by
 obtain ⟨v,hb,_⟩ := h.obj
 exact (Array.getElem?_eq_some_iff.1 hb).1
theorem Rd.glt {B : Nat} {w : World} {b : Nat} {g : Option Nat} {P : List Nat} {t : Nat} (h : Rd B w b g P t) : ∀ k,g = some k → k < w.heap.size := by
 intro k hk
 obtain ⟨v,_,ho,hv⟩ := h.obj
 exact (ho.lt k (hv.trans hk)).2
theorem Rd.keep {S : Nat → Prop} {B : Nat} {w w' : World} {b : Nat} {g : Option Nat} {P : List Nat} {t : Nat} (h : Rd B w b g P t) (hf : Fr S w w') (hb : ¬ S b) (hg : ∀ k,g = some k → ¬ S k) : Rd B w' b g P t := by
 refine ⟨h.low,h.glow,h.ne,h.byt,h.len,h.le,?_⟩
 have hl := h.lt
 obtain ⟨v,h1,h2,h3⟩ := h.obj
 exact ⟨v,(hf.block b hl hb).trans h1,hf.row h2 (fun k hk => hg k (h3.symm.trans hk)),h3⟩
theorem Rd.quiet {B : Nat} {w w' : World} {b : Nat} {g : Option Nat} {P : List Nat} {t : Nat} (h : Rd B w b g P t) (hf : Fr Nobody w w') : Rd B w' b g P t := h.keep hf id (fun _ _ => id)
theorem Wr.quiet {B : Nat} {w w' : World} {b : Nat} {g : Option Nat} {L : List Bool} (h : Wr B w b g L) (hf : Fr Nobody w w') : Wr B w' b g L := h.keep hf id (fun _ _ => id)
def bstr (P : List Nat) : ByteArray := (P.map (fun (n : Nat) => (n : Int))).foldl (fun r n => r.push (UInt8.ofNat n.toNat)) ByteArray.empty
theorem conv_src (w : World) (ao : Option Addr) (n c : Nat) (P : List Nat) (h : Src w (.slice ao n c) P.length (vrow P)) : (convert 22 9 (.slice ao n c)).run Tryz.prog w = .ok (.string (bstr P)) w := by
 rw [run_convert_bytes_string w 22 9 5 ao n c Tryz.underlying22 Tryz.underlying5 Tryz.underlying9]
 rcases h with ⟨h0,h1,h2⟩ | ⟨a,cap,h0,h1,h2⟩
 ·cases h0
  have : P = [] := List.eq_nil_of_length_eq_zero h1
  subst this
  simp [Conv.bytesToString,bstr]
 ·cases h0
  refine run_bytesToString w a P.length c (P.map (fun (n : Nat) => (n : Int))) ?_
  have e : (P.map (fun (n : Nat) => (n : Int))).map (Value.int .u8) = vrow P := by simp [vrow]
  rw [e,← length_vrow P]
  exact run_loadCells_list w a (vrow P) h2
theorem same_any (w : World) (a b : Value) (P : List Nat) (ha : Src w a P.length (vrow P)) (hb : Src w b P.length (vrow P)) :
  Calls Tryz.prog 17 #[a,b] w fun e w' => e = .returned (.bool true) ∧ w' = w := by
 obtain ⟨aa,an,ac,rfl⟩ : ∃ aa an ac,a = .slice aa an ac := by
  rcases ha with ⟨rfl,_⟩ | ⟨_,_,rfl,_⟩ <;> exact ⟨_,_,_,rfl⟩
 obtain ⟨ba,bn,bc,rfl⟩ : ∃ aa an ac,b = .slice aa an ac := by
  rcases hb with ⟨rfl,_⟩ | ⟨_,_,rfl,_⟩ <;> exact ⟨_,_,_,rfl⟩
 have ca := conv_src w aa an ac P ha
 have cb := conv_src w ba bn bc P hb
 clear ha hb
 generalize bstr P = s at *
 have hs : (s.toList == s.toList) = true := by simp
 go_enter Tryz.func17,Tryz.ntmps17
 go_wp2
 go_ret
 exact ⟨rfl,rfl⟩
theorem Wr.lowAt {B : Nat} {w : World} {b : Nat} {g : Option Nat} {L : List Bool} (h : Wr B w b g L) : ∀ k,At b g k → B ≤ k := by
 rintro k (rfl | e)
 ·exact h.low
 ·exact h.glow k e.symm
theorem Rd.lowAt {B : Nat} {w : World} {b : Nat} {g : Option Nat} {P : List Nat} {t : Nat} (h : Rd B w b g P t) : ∀ k,At b g k → B ≤ k := by
 rintro k (rfl | e)
 ·exact h.low
 ·exact h.glow k e.symm
def Ow (w0 w : World) (b : Nat) (L : List Bool) : Prop := ∃ g,Wr w0.heap.size w b g L ∧ Fr Nobody w0 w
def Or (w0 w : World) (b : Nat) (P : List Nat) (t : Nat) : Prop := ∃ g,Rd w0.heap.size w b g P t ∧ Fr Nobody w0 w
theorem Ow.quiet {w0 w w' : World} {b : Nat} {L : List Bool} (h : Ow w0 w b L) (hf : Fr Nobody w w') : Ow w0 w' b L := by
 obtain ⟨g,hW,hF⟩ := h
 exact ⟨g,hW.quiet hf,hF.trans hf⟩
theorem Or.quiet {w0 w w' : World} {b : Nat} {P : List Nat} {t : Nat} (h : Or w0 w b P t) (hf : Fr Nobody w w') : Or w0 w' b P t := by
 obtain ⟨g,hW,hF⟩ := h
 exact ⟨g,hW.quiet hf,hF.trans hf⟩
theorem Ow.fr {w0 w : World} {b : Nat} {L : List Bool} (h : Ow w0 w b L) : Fr Nobody w0 w := by
 obtain ⟨g,hW,hF⟩ := h
 exact hF
theorem Or.fr {w0 w : World} {b : Nat} {P : List Nat} {t : Nat} (h : Or w0 w b P t) : Fr Nobody w0 w := by
 obtain ⟨g,hW,hF⟩ := h
 exact hF
theorem new_ow (w0 w : World) (hf : Fr Nobody w0 w) : Calls Tryz.prog 84 #[] w fun e w' => ∃ b,e = .returned (.pointer (some ⟨b,0,none⟩)) ∧ w.heap.size ≤ b ∧ Ow w0 w' b [] := by
 refine (new_any w0.heap.size w hf.size).mono ?_
 rintro e w' ⟨b,rfl,hb,hW,hF⟩
 exact ⟨b,rfl,hb,none,hW,hf.trans hF⟩
theorem same_fr (w : World) (a b : Value) (P : List Nat) (ha : Src w a P.length (vrow P)) (hb : Src w b P.length (vrow P)) :
  Calls Tryz.prog 17 #[a,b] w fun e w' => e = .returned (.bool true) ∧ Fr Nobody w w' := by
 refine (same_any w a b P ha hb).mono ?_
 rintro e w' ⟨rfl,rfl⟩
 exact ⟨rfl,Fr.refl _ _⟩
end Go.Proofs.YtgifeckbflkkpaaGreatDoor
namespace Go.Proofs.YtgifeckbflkkpaaGreatDoor
open Go.ChangeShapes Go.WideShapes Go.ChangeAt Go.WideMaps Go.WideElems Go.RowKit
set_option linter.unusedVariables false
set_option maxHeartbeats 400000
set_option maxRecDepth 100000
def kinds : List (List UInt8 × Bool × Nat × List (List UInt8 × Int × Int)) :=
 [([112,111,115],true,2,[([120],-524288,524287),([121],-524288,524287),([],0,0)]),
  ([118,101,108],true,2,[([100,120],-32768,32767),([100,121],-32768,32767),([],0,0)]),
  ([108,105,102,101],true,1,[([108,101,102,116],0,4095),([],0,0),([],0,0)]),
  ([98,111,100,121],true,3,[([115,104,97,112,101],0,15),([104,112],0,1000),([115,105,122,101],1,100)]),
  ([116,97,103],true,3,[([116,101,97,109],0,7),([99,111,108,111,114],0,255),([102,108,97,103,115],0,31)]),
  ([115,112,97,119,110],false,3,[([101,118,101,114,121],1,255),([108,101,102,116],0,254),([115,104,97,112,101],0,15)])]
def kname (k : Nat) : List UInt8 := (kinds[k]?.map (·.1)).getD []
def ktold (k : Nat) : Bool := (kinds[k]?.map (·.2.1)).getD false
def cnt (k : Nat) : Nat := (kinds[k]?.map (·.2.2.1)).getD 0
def fld (k j : Nat) : List UInt8 × Int × Int := ((kinds[k]?.map (·.2.2.2)).getD [])[j]?.getD ([],0,0)
def fname (k j : Nat) : List UInt8 := (fld k j).1
def lo (k j : Nat) : Int := (fld k j).2.1
def hi (k j : Nat) : Int := (fld k j).2.2
def bstr5 (l : List UInt8) : ByteArray := ⟨l.toArray⟩
def fldData {H : Type} (f : List UInt8 × Int × Int) : DataW H := .agg [.lit (.string f.1),.lit (.int .i32 f.2.1),.lit (.int .i32 f.2.2)]
def kindData {H : Type} (r : List UInt8 × Bool × Nat × List (List UInt8 × Int × Int)) : DataW H := .agg [.lit (.string r.1),.lit (.bool r.2.1),.lit (.int .i64 (r.2.2.1 : Int)),.agg (r.2.2.2.map fldData)]
theorem laid_kinds {H : Type} : (Rows.laid_pinnace_schema_rows : DataW H) = .agg (kinds.map kindData) := rfl
theorem own : ownKnob Tryz.prog.godebug = none := by kernel_rfl
theorem gRows : Tryz.prog.globalNamed "pinnace/schema.rows" = some 1 := by kernel_rfl
theorem tRows : (Tryz.prog.globals[1]?).map (·.type) = some 263 := by kernel_rfl
def laid1 {H : Type} : List (String × DataW H) := [("pinnace/frame.steps",Rows.laid_pinnace_frame_steps),("pinnace/schema.rows",Rows.laid_pinnace_schema_rows)]
structure Tab (w : World) : Prop where
 nm : ∀ k,k < 6 → w.cell? ⟨1,k * 12,none⟩ = some (.string (bstr5 (kname k)))
 told : ∀ k,k < 6 → w.cell? ⟨1,k * 12 + 1,none⟩ = some (.bool (ktold k))
 cnt : ∀ k,k < 6 → w.cell? ⟨1,k * 12 + 2,none⟩ = some (.int .i64 (cnt k : Int))
 fnm : ∀ k j,k < 6 → j < 3 → w.cell? ⟨1,k * 12 + 3 + j * 3,none⟩ = some (.string (bstr5 (fname k j)))
 lo : ∀ k j,k < 6 → j < 3 → w.cell? ⟨1,k * 12 + 3 + j * 3 + 1,none⟩ = some (.int .i32 (lo k j))
 hi : ∀ k j,k < 6 → j < 3 → w.cell? ⟨1,k * 12 + 3 + j * 3 + 2,none⟩ = some (.int .i32 (hi k j))
theorem Tab.keep {S : Nat → Prop} {w w' : World} (h : Tab w) (hf : Fr S w w') (hs : ¬ S 1) : Tab w' := by
 have key : ∀ (o : Nat) (v : Value),w.cell? ⟨1,o,none⟩ = some v → w'.cell? ⟨1,o,none⟩ = some v := fun o v hv => (hf.cell (p := ⟨1,o,none⟩) (World.block_lt_of_cell? w _ hv) hs).trans hv
 exact ⟨fun k hk => key _ _ (h.nm k hk),fun k hk => key _ _ (h.told k hk),fun k hk => key _ _ (h.cnt k hk),fun k j hk hj => key _ _ (h.fnm k j hk hj),fun k j hk hj => key _ _ (h.lo k j hk hj),fun k j hk hj => key _ _ (h.hi k j hk hj)⟩
theorem Tab.quiet {w w' : World} (h : Tab w) (hf : Fr Nobody w w') : Tab w' := h.keep hf id
theorem Tab.size {w : World} (h : Tab w) : 1 < w.heap.size := World.block_lt_of_cell? w _ (h.nm 0 (by decide))
theorem sub_cell {α : Type} {cs l : List α} {a n j : Nat} (h : ((cs.drop a).take n) = l) (hj : j < n) : cs[a + j]? = l[j]? := by
 subst h
 rw [List.getElem?_take,if_pos hj,List.getElem?_drop]
theorem fld_len (k : Nat) (hk : k < 6) : ((kinds[k]?.map (·.2.2.2)).getD []).length = 3 := by
 have : k = 0 ∨ k = 1 ∨ k = 2 ∨ k = 3 ∨ k = 4 ∨ k = 5 := by omega
 rcases this with rfl | rfl | rfl | rfl | rfl | rfl <;> rfl
theorem str_of {s : ByteArray} {l : List UInt8} (h : l = s.data.toList) : s = bstr5 l := by
 subst h; rfl
theorem fld_cells {H : Type} {enc : TypeId × Value → H} {w : World} {base : Nat} {spare : Nat → Bool} {held : Bool} {fuel : Nat} {cs : List Value} {f : List UInt8 × Int × Int} {p : List MemPlace}
  (h : DataW.trod enc Tryz.prog w base spare held fuel 259 cs = some (fldData f,p)) : cs = [.string (bstr5 f.1),.int .i32 f.2.1,.int .i32 f.2.2] := by
 obtain ⟨xs,n,_,hx,hl,hlen,hf⟩ := DataW.trod_struct Tryz.underlying259 h
 have cS : Tryz.prog.cellsOf 9 = 1 := by kernel_rfl
 have cI : Tryz.prog.cellsOf 21 = 1 := by kernel_rfl
 have cF : Tryz.prog.cellsOf 259 = 3 := by kernel_rfl
 rw [cF] at hl
 match cs,hl with
 | [c0,c1,c2],_ =>
 match xs,hlen with
 | [y0,y1,y2],_ =>
  have h0 := hf 0 _ rfl
  have h1 := hf 1 _ rfl
  have h2 := hf 2 _ rfl
  simp [cS,cI] at h0 h1 h2
  obtain ⟨s,e0,e0',_⟩ := DataW.trod_string Tryz.underlying9 h0
  obtain ⟨a,e1,e1',_⟩ := DataW.trod_int Tryz.underlying21 h1
  obtain ⟨b,e2,e2',_⟩ := DataW.trod_int Tryz.underlying21 h2
  subst e0' e1' e2'
  simp [fldData] at hx e0 e1 e2
  obtain ⟨⟨hs,ha,hb⟩,_⟩ := hx
  subst e0 e1 e2
  rw [str_of hs,← ha,← hb]
theorem getElem?_fld (k j : Nat) (hk : k < 6) (hj : j < 3) : ((kinds[k]?.map (·.2.2.2)).getD [])[j]? = some (fld k j) := by
 have hl := fld_len k hk
 unfold fld
 rw [List.getElem?_eq_getElem (by rw [hl]; exact hj)]
 rfl
theorem of_laid {W : World} (h : laidMetH Tryz.prog laid1 W) : Tab W := by
 rw [MakeChecks.laidMetH_plain _ _ _ (by kernel_rfl)] at h
 obtain ⟨ps,⟨_,_,_,_,_,_,_,_,_,_,⟨g0,t0,cs0,f0,p0,q0,hg0,ht0,hv0,hd0,_,_⟩,_⟩,_,_⟩ := h
 obtain rfl := Option.some.inj (gRows.symm.trans hg0)
 obtain rfl := Option.some.inj (tRows.symm.trans ht0)
 obtain ⟨xs,m1,hx0,hx1,hlen,hn3,hel⟩ := DataW.trod_array Tryz.underlying263 hd0
 have cR : Tryz.prog.cellsOf 262 = 12 := by kernel_rfl
 have cS : Tryz.prog.cellsOf 9 = 1 := by kernel_rfl
 have cI : Tryz.prog.cellsOf 3 = 1 := by kernel_rfl
 have cBo : Tryz.prog.cellsOf 4 = 1 := by kernel_rfl
 have cF : Tryz.prog.cellsOf 259 = 3 := by kernel_rfl
 have cFs : Tryz.prog.cellsOf 260 = 9 := by kernel_rfl
 simp only [Prod.mk.injEq,laid_kinds,DataW.agg.injEq] at hx1
 have main : ∀ k,k < 6 → ∃ r,kinds[k]? = some r ∧ ∃ l : List Value,(cs0.toList.drop (k * 12)).take 12 = l ∧ l[0]? = some (.string (bstr5 r.1)) ∧ l[1]? = some (.bool r.2.1) ∧ l[2]? = some (.int .i64 (r.2.2.1 : Int)) ∧ ∀ j f,j < 3 → r.2.2.2[j]? = some f → (l.drop (3 + j * 3)).take 3 = [.string (bstr5 f.1),.int .i32 f.2.1,.int .i32 f.2.2] := by
  intro k hk
  have h0 := hel k hk
  have hxi : xs[k]? = some xs[k] := List.getElem?_eq_getElem (by rw [hn3]; exact hk)
  have hkk : kinds[k]? = some kinds[k] := List.getElem?_eq_getElem hk
  refine ⟨kinds[k],hkk,_,rfl,?_⟩
  rw [cR] at h0
  generalize hl : (cs0.toList.drop (k * 12)).take 12 = l at *
  have hd : kindData (H := Unit) kinds[k] = (xs[k]).1 := by
   have h1 : (kinds.map (kindData (H := Unit)))[k]? = some (kindData kinds[k]) := by rw [List.getElem?_map,hkk]; rfl
   rw [hx1.1,List.getElem?_map,hxi] at h1
   simpa using h1.symm
  generalize kinds[k] = r at *
  obtain ⟨ys,n,_,hy,hyl,hylen,hf⟩ := DataW.trod_struct Tryz.underlying262 (h0.trans hxi)
  rw [cR] at hyl
  match l,hyl with
  | [c0,c1,c2,c3,c4,c5,c6,c7,c8,c9,c10,c11],_ =>
  match ys,hylen with
  | [y0,y1,y2,y3],_ =>
   have h0 := hf 0 _ rfl
   have h1 := hf 1 _ rfl
   have h2 := hf 2 _ rfl
   have h3 := hf 3 _ rfl
   simp [cS,cI,cBo,cFs] at h0 h1 h2 h3
   obtain ⟨s,e0,e0',_⟩ := DataW.trod_string Tryz.underlying9 h0
   obtain ⟨a,e1,e1'⟩ := DataW.trod_bool Tryz.underlying4 h1
   obtain ⟨b,e2,e2',_⟩ := DataW.trod_int Tryz.underlying3 h2
   obtain ⟨zs,m2,hz0,hz1,hzlen,hz3,hzel⟩ := DataW.trod_array Tryz.underlying260 h3
   rw [hy] at hd
   subst e0' e1' e2'
   simp [kindData] at hd e0 e1 e2
   obtain ⟨hs,ha,hb,hfs⟩ := hd
   subst e0 e1 e2
   refine ⟨by rw [str_of hs]; rfl,by rw [ha]; rfl,by rw [hb]; rfl,?_⟩
   intro j f hj hjf
   have hzj := hzel j hj
   have hzi : zs[j]? = some zs[j] := List.getElem?_eq_getElem (by rw [hz3]; exact hj)
   rw [cF,hzi] at hzj
   have hdat : (zs[j]).1 = fldData f := by
    have h1 : (r.2.2.2.map (fldData (H := Unit)))[j]? = some (fldData f) := by rw [List.getElem?_map,hjf]; rfl
    simp only [hz1,DataW.agg.injEq] at hfs
    rw [hfs,List.getElem?_map,hzi] at h1
    simpa using h1
   have hz' : zs[j] = (fldData f,(zs[j]).2) := by rw [← hdat]
   rw [hz'] at hzj
   have := fld_cells hzj
   rw [← this,← List.drop_drop]
   simp
 have cellOf : ∀ (o : Nat) (v : Value),cs0.toList[o]? = some v → W.cell? ⟨1,o,none⟩ = some v := fun o v hv => by
  rw [World.var?_cell hg0 hv0 o,← Array.getElem?_toList]; exact hv
 have pre : ∀ k o v,k < 6 → o < 12 → ((cs0.toList.drop (k * 12)).take 12)[o]? = some v → W.cell? ⟨1,k * 12 + o,none⟩ = some v := fun k o v hk ho hv => by
  apply cellOf
  rw [List.getElem?_take,if_pos ho,List.getElem?_drop] at hv
  exact hv
 refine ⟨fun k hk => ?_,fun k hk => ?_,fun k hk => ?_,fun k j hk hj => ?_,fun k j hk hj => ?_,fun k j hk hj => ?_⟩
 all_goals obtain ⟨r,hr,l,hl,l0,l1,l2,l3⟩ := main k hk
 ·rw [← hl] at l0; have := pre k 0 _ hk (by decide) l0
  simpa [kname,hr] using this
 ·rw [← hl] at l1; have := pre k 1 _ hk (by decide) l1
  simpa [ktold,hr] using this
 ·rw [← hl] at l2; have := pre k 2 _ hk (by decide) l2
  simpa [Go.Proofs.YtgifeckbflkkpaaGreatDoor.cnt,hr] using this
 all_goals
  have hfj := getElem?_fld k j hk hj
  rw [hr] at hfj
  have h3 := l3 j _ hj hfj
  rw [← hl] at h3
 ·have := pre k (3 + j * 3 + 0) _ hk (by omega) (by rw [sub_cell h3 (by decide)]; rfl)
  rw [Nat.add_assoc]; exact this
 ·have := pre k (3 + j * 3 + 1) _ hk (by omega) (by rw [sub_cell h3 (by decide)]; rfl)
  rw [Nat.add_assoc,Nat.add_assoc]; exact this
 ·have := pre k (3 + j * 3 + 2) _ hk (by omega) (by rw [sub_cell h3 (by decide)]; rfl)
  rw [Nat.add_assoc,Nat.add_assoc]; exact this
end Go.Proofs.YtgifeckbflkkpaaGreatDoor
