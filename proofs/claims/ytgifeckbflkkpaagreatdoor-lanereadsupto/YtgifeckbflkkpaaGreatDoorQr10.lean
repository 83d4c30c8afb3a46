/- Nil writers and readers of package comp. -/
import Derived.Test.YtgifeckbflkkpaaGreatDoorQr09
import Derived.Laws.StructEq
import Derived.ChangeKeysEq
namespace Go.Proofs.YtgifeckbflkkpaaGreatDoor
open Go.RowKit
set_option linter.unusedVariables false
set_option maxHeartbeats 4000000
set_option maxRecDepth 100000
theorem Box.frozen {w : World} {b k : Nat} {F : Nat → Int} (h : Box w b k F) (o : Nat) : w.frozen? ⟨b,o,none⟩ = false := by
 unfold Box at h; simp [World.frozen?,h]
def put4 (w : World) (b k : Nat) (F : Nat → Int) : World := (((w.setCell ⟨b,0,none⟩ (.int .u8 (k : Int))).setCell ⟨b,1,none⟩ (.int .i32 (F 0))).setCell ⟨b,2,none⟩ (.int .i32 (F 1))).setCell ⟨b,3,none⟩ (.int .i32 (F 2))
theorem put4_box {w : World} {b k0 k : Nat} {F0 F : Nat → Int} (h : Box w b k0 F0) : Box (put4 w b k F) b k F := by
 unfold Box cmp at *
 have h1 := setCell_heap w b 0 _ _ (.int .u8 (k : Int)) h
 have h2 := setCell_heap _ b 1 _ _ (.int .i32 (F 0)) h1
 have h3 := setCell_heap _ b 2 _ _ (.int .i32 (F 1)) h2
 have h4 := setCell_heap _ b 3 _ _ (.int .i32 (F 2)) h3
 unfold put4
 rw [h4]
 rfl
theorem put4_fr {S : Nat → Prop} {w0 w : World} {b k : Nat} {F : Nat → Int} (h : Fr S w0 w) (hb : S b ∨ w0.heap.size ≤ b) : Fr S w0 (put4 w b k F) :=
 (((h.setCell (p := ⟨b,0,none⟩) hb _).setCell (p := ⟨b,1,none⟩) hb _).setCell (p := ⟨b,2,none⟩) hb _).setCell (p := ⟨b,3,none⟩) hb _
theorem Rd.fresh {B : Nat} {w w' : World} {br : Nat} {g : Option Nat} {P : List Nat} {t b : Nat} (h : Rd B w br g P t) (hf : Fr (fun k => k = b) w w') (h1 : b ≠ br) (h2 : g ≠ some b) : Rd B w' br g P t :=
 h.keep hf (fun e => h1 e.symm) (fun k hk e => h2 (by rw [hk,e]))
theorem Rd.put4 {B : Nat} {w : World} {br : Nat} {g : Option Nat} {P : List Nat} {t b k k0 : Nat} {F F0 : Nat → Int} (h : Rd B w br g P t) (hb : Box w b k0 F0) : Rd B (put4 w b k F) br g P t := by
 have h1 : b ≠ br := by
  rintro rfl
  obtain ⟨v,hv,_⟩ := h.obj
  unfold Box at hb
  rw [hv] at hb
  simp at hb
 have h2 : g ≠ some b := by
  intro e
  obtain ⟨v,hv,ho,hg⟩ := h.obj
  rcases ho.2 with ⟨rfl,_⟩ | ⟨g',cap,cur,rfl,_,hgg,_⟩
  ·rw [← hg] at e; simp [Value.ownBlock] at e
  ·rw [← hg] at e
   simp [Value.ownBlock] at e
   subst e
   unfold Box at hb
   rw [hgg] at hb
   simp at hb
 exact h.fresh (put4_fr (S := fun k => k = b) (Fr.refl _ _) (.inl rfl)) h1 h2
def rat (code : Nat → Nat → Int) (cons : Nat → Nat → Nat) (t : Nat) : Nat → Int × Nat
 | 0 => (0,t)
 | j + 1 => if (rat code cons t j).1 = 0 then (code (rat code cons t j).2 j,(rat code cons t j).2 + cons (rat code cons t j).2 j) else rat code cons t j
theorem rat_err (code : Nat → Nat → Int) (cons : Nat → Nat → Nat) (t j n : Nat) (h : (rat code cons t j).1 ≠ 0) : rat code cons t (j + n) = rat code cons t j := by
 induction n with
 | zero => rfl
 | succ n ih => rw [← Nat.add_assoc,rat,ih,if_neg h]
theorem rat_ge (code : Nat → Nat → Int) (cons : Nat → Nat → Nat) (t j : Nat) : t ≤ (rat code cons t j).2 := by
 induction j with
 | zero => exact Nat.le_refl _
 | succ j ih =>
  rw [rat]
  split
  ·show t ≤ _ + _; omega
  ·exact ih
def upd (code val : Nat → Nat → Int) (cons : Nat → Nat → Nat) (t : Nat) (F : Nat → Int) (n : Nat) (j : Nat) : Int := if j < n then val (rat code cons t j).2 j else F j
theorem upd_zero (code val : Nat → Nat → Int) (cons : Nat → Nat → Nat) (t : Nat) (F : Nat → Int) : upd code val cons t F 0 = F := by funext j; simp [upd]
theorem Box.set {w : World} {b k j : Nat} {F : Nat → Int} (h : Box w b k F) (hj : j < 3) (x : Int) : Box (w.setCell ⟨b,1 + j,none⟩ (.int .i32 x)) b k (fun i => if i = j then x else F i) := by
 unfold Box cmp at *
 rw [setCell_heap w b (1 + j) _ _ _ h]
 have : j = 0 ∨ j = 1 ∨ j = 2 := by omega
 rcases this with rfl | rfl | rfl <;> rfl
theorem Rd.setBox {B : Nat} {w : World} {br : Nat} {g : Option Nat} {P : List Nat} {t b k o : Nat} {F : Nat → Int} (h : Rd B w br g P t) (hb : Box w b k F) (x : Value) : Rd B (w.setCell ⟨b,o,none⟩ x) br g P t := by
 have h1 : b ≠ br := by
  rintro rfl
  obtain ⟨v,hv,_⟩ := h.obj
  unfold Box at hb
  rw [hv] at hb
  simp at hb
 have h2 : g ≠ some b := by
  intro e
  obtain ⟨v,hv,ho,hg⟩ := h.obj
  rcases ho.2 with ⟨rfl,_⟩ | ⟨g',cap,cur,rfl,_,hgg,_⟩
  ·rw [← hg] at e; simp [Value.ownBlock] at e
  ·rw [← hg] at e
   simp [Value.ownBlock] at e
   subst e
   unfold Box at hb
   rw [hgg] at hb
   simp at hb
 exact h.fresh (Fr.setCell (S := fun k => k = b) (Fr.refl _ _) (p := ⟨b,o,none⟩) (.inl rfl) x) h1 h2
theorem eq_a3 (d : Nat) (a b c a' b' c' : Int) (w : World) : (Op.equalIn (d + 1 + 1) 61 (.agg #[.int .i32 a,.int .i32 b,.int .i32 c]) (.agg #[.int .i32 a',.int .i32 b',.int .i32 c'])).run Tryz.prog w = .ok ((a == a') && (b == b') && (c == c')) w := by
 have hi : ∃ i,Tryz.prog.info? 21 = some i := by
  have : (Tryz.prog.info? 21).isSome = true := by kernel_rfl
  exact Option.isSome_iff_exists.1 this
 obtain ⟨i,hi⟩ := hi
 have c1 : Tryz.prog.cellsOf 21 = 1 := by kernel_rfl
 have hz : (Tryz.prog.info? 21).map (·.size) = some 1 := by kernel_rfl
 have hu := Tryz.underlying21
 rw [run_equalIn_array w (d + 1) _ _ Tryz.underlying61 hi]
 simp only [Op.eqItems,show List.range 3 = [0,1,2] from rfl,c1]
 cases ha : (a == a') <;> cases hb : (b == b') <;> cases hc : (c == c') <;> go_simp
def Wt (w : World) (k : Nat) : Prop := ∃ cur f,w.heap[k]? = some (.cells cur 210 f) ∨ w.heap[k]? = some (.cells cur 5 f)
def Wf (w w' : World) : Prop := Fr (Wt w) w w'
theorem Wf.refl (w : World) : Wf w w := Fr.refl _ _
theorem Wf.of_quiet {w w' : World} (h : Fr Nobody w w') : Wf w w' := h.mono (fun _ _ k => k.elim)
theorem Wf.trans {a b c : World} (h : Wf a b) (k : Wf b c) : Wf a c := by
 refine ⟨k.os.trans h.os,k.tape.trans h.tape,k.output.trans h.output,Nat.le_trans h.size k.size,fun i hi hs => ?_⟩
 have e := h.block i hi hs
 refine (k.block i (Nat.lt_of_lt_of_le hi h.size) ?_).trans e
 rintro ⟨cur,f,hc⟩
 rw [e] at hc
 exact hs ⟨cur,f,hc⟩
theorem Wf.quiet {a b c : World} (h : Wf a b) (k : Fr Nobody b c) : Wf a c := h.trans (Wf.of_quiet k)
theorem Box.wf {w w' : World} {b k : Nat} {F : Nat → Int} (h : Box w b k F) (hf : Wf w w') : Box w' b k F := by
 refine (hf.block b (Array.getElem?_eq_some_iff.1 h).1 ?_).trans h
 rintro ⟨cur,f,hc⟩
 unfold Box at h
 rw [h] at hc
 simp at hc
theorem Bo.wf {B : Nat} {w w' : World} {v : Value} {L : List Bool} (h : Bo B w v L) (hf : Wf w w') : Bo B w' v L := by
 refine h.keep hf ?_
 rintro k cur hk ⟨cur',f,hc⟩
 rw [hk] at hc
 simp at hc
theorem Bs.wf {w w' : World} {v : Value} {L : List Bool} (h : Bs w v L) (hf : Wf w w') : Bs w' v L := by
 refine h.keep hf ?_
 rintro k cur hk ⟨cur',f,hc⟩
 rw [hk] at hc
 simp at hc
theorem Wr.wt {B : Nat} {w : World} {b : Nat} {g : Option Nat} {L : List Bool} (h : Wr B w b g L) (k : Nat) (hk : At b g k) : Wt w k := by
 obtain ⟨v,h1,h2,h3⟩ := h.obj
 rcases hk with rfl | hk
 ·exact ⟨_,_,.inl h1⟩
 ·rcases h2.2 with ⟨rfl,_⟩ | ⟨g',cap,cur,rfl,_,hgg,_⟩
  ·simp [Value.ownBlock] at h3
   rw [← h3] at hk; cases hk
  ·simp [Value.ownBlock] at h3
   rw [← h3] at hk
   cases hk
   exact ⟨_,_,.inr hgg⟩
def fb (k : Nat) (F : Nat → Int) (j : Nat) : List Bool := bitsN (wd k j) (F j - lo k j).toNat
theorem length_fb (k : Nat) (F : Nat → Int) (j : Nat) : (fb k F j).length = wd k j := length_bitsN _ _
def cb (k : Nat) (F : Nat → Int) : Nat → List Bool
 | 0 => []
 | n + 1 => cb k F n ++ fb k F n
theorem length_cb (k : Nat) (F : Nat → Int) (n : Nat) : (cb k F n).length = bsum k n := by
 induction n with
 | zero => rfl
 | succ n ih => rw [cb,List.length_append,ih,length_fb]; rfl
theorem chk_ok (k : Nat) (F : Nat → Int) (h : chk k F = 0) : k < 6 ∧ (∀ j,j < cnt k → lo k j ≤ F j ∧ F j ≤ hi k j) ∧ ∀ j,cnt k ≤ j → j < 3 → F j = 0 := by
 unfold chk at h
 by_cases h6 : 6 ≤ k
 ·rw [if_pos h6] at h; cases h
 ·rw [if_neg h6] at h
  cases hs : stray k F with
  | true => rw [hs,if_pos rfl] at h; cases h
  | false =>
   rw [hs,if_neg (by decide)] at h
   cases ho : outside k F with
   | true => rw [ho,if_pos rfl] at h; cases h
   | false => exact ⟨by omega,fun j hj => outside_no k j F ho hj,fun j hj h3 => stray_no k j F hs hj h3⟩
theorem bits_le (k : Nat) : bitsK k ≤ 60 := by
 have := bsum_le k (cnt k) (Nat.le_refl _)
 have := cnt_le k
 unfold bitsK; omega
def sb (k : Nat) (F G : Nat → Int) (j : Nat) : List Bool := if mz F G j = 0 then bitsN 1 0 else if mz F G j ≤ 16 then bitsN 2 3 ++ bitsN 4 (mz F G j - 1) else bitsN 2 1 ++ fb k G j
theorem length_sb (k : Nat) (F G : Nat → Int) (j : Nat) : (sb k F G j).length = fsz k F G j := by
 unfold sb fsz
 split
 ·rfl
 ·split
  ·rw [List.length_append,length_bitsN,length_bitsN]
  ·rw [List.length_append,length_bitsN,length_fb]
def sbs (k : Nat) (F G : Nat → Int) : Nat → List Bool
 | 0 => []
 | n + 1 => sbs k F G n ++ sb k F G n
theorem length_sbs (k : Nat) (F G : Nat → Int) (n : Nat) : (sbs k F G n).length = ssum k F G n := by
 induction n with
 | zero => rfl
 | succ n ih => rw [sbs,List.length_append,ih,length_sb]; rfl
theorem ckS_ok (k k' : Nat) (F G : Nat → Int) (h : ckS k k' F G = 0) : chk k F = 0 ∧ chk k' G = 0 ∧ k = k' := by
 unfold ckS at h
 by_cases h1 : chk k F = 0
 ·rw [if_pos h1] at h
  by_cases h2 : chk k' G = 0
  ·rw [if_pos h2] at h
   by_cases h3 : k = k'
   ·exact ⟨h1,h2,h3⟩
   ·rw [if_neg h3] at h; cases h
  ·rw [if_neg h2] at h; exact absurd h h2
 ·rw [if_neg h1] at h; exact absurd h h1
def gf (k : Nat) (P : List Nat) (t j : Nat) : Int × Int × Nat := gi (lo k j) (hi k j) ((bitsB P).drop t)
theorem gi_rng (x y : Int) (L : List Bool) : (gi x y L).2.1 = 0 ∨ (x ≤ (gi x y L).2.1 ∧ (gi x y L).2.1 ≤ y) := by
 unfold gi
 split
 ·exact .inl rfl
 ·split
  ·exact .inl rfl
  ·split
   ·exact .inl rfl
   ·right
    show x ≤ x + _ ∧ x + _ ≤ y
    omega
def gcode (k : Nat) (P : List Nat) (t : Nat) : Int := if cnt k = 0 then 1 else (rat (fun t j => (gf k P t j).1) (fun t j => (gf k P t j).2.2) t (cnt k)).1
def gfld (k : Nat) (P : List Nat) (t : Nat) : Nat → Int := upd (fun t j => (gf k P t j).1) (fun t j => (gf k P t j).2.1) (fun t j => (gf k P t j).2.2) t (f3 0 0 0) (cnt k)
def gcons (k : Nat) (P : List Nat) (t : Nat) : Nat := if gcode k P t = 0 then (rat (fun t j => (gf k P t j).1) (fun t j => (gf k P t j).2.2) t (cnt k)).2 - t else 0
theorem Bs.setBox {w : World} {v : Value} {L : List Bool} {b k o : Nat} {F : Nat → Int} (h : Bs w v L) (hb : Box w b k F) (x : Value) : Bs (w.setCell ⟨b,o,none⟩ x) v L := by
 refine h.keep (Fr.setCell (S := fun k => k = b) (Fr.refl _ _) (p := ⟨b,o,none⟩) (.inl rfl) x) ?_
 rintro k cur hk rfl
 unfold Box at hb
 rw [hk] at hb
 simp at hb
theorem Bs.put4 {w : World} {v : Value} {L : List Bool} {b k k0 : Nat} {F F0 : Nat → Int} (h : Bs w v L) (hb : Box w b k0 F0) : Bs (put4 w b k F) v L := by
 refine h.keep (put4_fr (S := fun k => k = b) (Fr.refl _ _) (.inl rfl)) ?_
 rintro k cur hk rfl
 unfold Box at hb
 rw [hk] at hb
 simp at hb
theorem rgetC_any (w : World) (v : Value) (P : List Nat) (t k : Nat) (hk : k < 256) (h : Bs w v ((bitsB P).drop t)) (hP : (bitsB P).length ≤ 100000) (RV : Array Value) (hv1 : gcode k P t = 0 → RV = cmp k (gfld k P t)) (hv2 : gcode k P t ≠ 0 → RV = cmp 0 (f3 0 0 0)) :
  Calls Tryz.prog 106 #[v,.int .u8 (k : Int)] w fun e w' => ∃ u,e = .returned (.tuple #[.agg RV,u,.int .i64 (gcode k P t)]) ∧ GvRest w w' u ((bitsB P).drop (t + gcons k P t)) := by
 have hres : Tryz.f106.results = #[.cell 4 63,.tmp 5,.tmp 6] := by kernel_rfl
 have HV1 : Hid (gcode k P t = 0 → RV = cmp k (gfld k P t)) := hv1
 have HV2 : Hid (gcode k P t ≠ 0 → RV = cmp 0 (f3 0 0 0)) := hv2
 have H : Hid (Bs w v ((bitsB P).drop t)) := h
 have C : Hid (∀ w,_) := fun w => rcount_any w k hk
 have HF0 : Hid (Fr Nobody w (w.alloc (.cells (cmp 0 (f3 0 0 0)) 63))) := (Fr.refl _ _).alloc _
 have HX0 : Hid (Box (w.alloc (.cells (cmp 0 (f3 0 0 0)) 63)) w.heap.size 0 (f3 0 0 0)) := Box.new _ _ _
 have HG0 : Hid (gcode k P t ≠ 0 → gcons k P t = 0) := fun e => by unfold gcons; rw [if_neg e]
 clear h hv1 hv2
 by_cases h0 : cnt k = 0
 ·have eg : gcode k P t = 1 := by unfold gcode; rw [if_pos h0]
  have HV : Hid (RV = cmp 0 (f3 0 0 0)) := HV2.out (by rw [eg]; decide)
  have HG : Hid (gcons k P t = 0) := HG0.out (by rw [eg]; decide)
  rw [eg]
  rw [h0] at C
  clear HV1 HV2 HG0 eg
  go_enter Tryz.func106,Tryz.ntmps106
  go_wp2_with fail
  refine (C.out _).mono ?_
  rintro e w1 ⟨rfl,hf1⟩
  have X1 : Hid (Box w1 w.heap.size 0 (f3 0 0 0)) := Box.quiet HX0.out hf1
  have HF1 : Hid (Fr Nobody w w1) := Fr.trans HF0.out hf1
  obtain ⟨y0,y1,y2,y3⟩ := X1.out.cells
  have z0 := X1.out.frozen 0
  have z1 := X1.out.frozen 1
  have z2 := X1.out.frozen 2
  have z3 := X1.out.frozen 3
  have HRX : Hid (Box (put4 w1 w.heap.size 0 (f3 0 0 0)) w.heap.size 0 (f3 0 0 0)) := put4_box X1.out
  have HRD : Hid (Fr Nobody w (put4 w1 w.heap.size 0 (f3 0 0 0))) := put4_fr HF1.out (.inr (Nat.le_refl _))
  clear hf1
  simp only [f3] at y1 y2 y3
  go_wp2
  (try simp only [Exit.inBlock,Exit.then])
  refine bodyPost_ret (v := .tuple #[.agg #[.int .u8 0,.int .i32 0,.int .i32 0,.int .i32 0],v,.int .i64 1]) ?_ rfl ⟨v,by rw [HV.out]; rfl,?_,HRD.out⟩
  ·simp only [results,hres]
   obtain ⟨r0,r1,r2,r3⟩ := HRX.out.cells
   simp only [put4,f3] at r0 r1 r2 r3
   go_simp
  ·rw [HG.out]
   exact H.out.quiet HRD.out
 ·have EG : Hid (gcode k P t = (rat (fun t j => (gf k P t j).1) (fun t j => (gf k P t j).2.2) t (cnt k)).1) := by show _ = _; unfold gcode; rw [if_neg h0]
  have EN : Hid (gcode k P t = 0 → gcons k P t = (rat (fun t j => (gf k P t j).1) (fun t j => (gf k P t j).2.2) t (cnt k)).2 - t) := fun e => by unfold gcons; rw [if_pos e]
  have EF : Hid (gfld k P t = upd (fun t j => (gf k P t j).1) (fun t j => (gf k P t j).2.1) (fun t j => (gf k P t j).2.2) t (f3 0 0 0) (cnt k)) := rfl
  obtain ⟨code,hcode⟩ : ∃ code : Nat → Nat → Int,code = fun t j => (gf k P t j).1 := ⟨_,rfl⟩
  obtain ⟨val,hval⟩ : ∃ val : Nat → Nat → Int,val = fun t j => (gf k P t j).2.1 := ⟨_,rfl⟩
  obtain ⟨cons,hcons⟩ : ∃ cons : Nat → Nat → Nat,cons = fun t j => (gf k P t j).2.2 := ⟨_,rfl⟩
  rw [← hcode,← hcons] at EG EN
  rw [← hcode,← hcons,← hval] at EF
  have hc := cnt_le k
  have G : Hid (∀ w v m j,j < cnt k → Bs w v ((bitsB P).drop m) → Calls Tryz.prog 99 #[v,.int .i64 (lo k j),.int .i64 (hi k j)] w fun e w' => ∃ u,e = .returned (.tuple #[.int .i64 (val m j),u,.int .i64 (code m j)]) ∧ GvRest w w' u ((bitsB P).drop (m + cons m j))) := by
   intro w v m j hj hb
   obtain ⟨l0,l1,l2,l3⟩ := rng_ok k j hj
   have := rgetIn_any w v _ (lo k j) (hi k j) hb (by rw [List.length_drop]; omega) (by omega) (by omega) (by omega) (by omega)
   rw [List.drop_drop] at this
   rw [hcode,hval,hcons]
   exact this
  have VR : Hid (∀ m j,j < cnt k → -524288 ≤ val m j ∧ val m j ≤ 524287) := by
   intro m j hj
   obtain ⟨l0,l1,l2,l3⟩ := rng_ok k j hj
   have := gi_rng (lo k j) (hi k j) ((bitsB P).drop m)
   rw [hval]
   show -524288 ≤ (gi (lo k j) (hi k j) ((bitsB P).drop m)).2.1 ∧ (gi (lo k j) (hi k j) ((bitsB P).drop m)).2.1 ≤ 524287
   omega
  have RR : Hid (∀ w j,j < cnt k → _) := fun w j hj => rrange_ok w k j hj
  have RB : Hid (∀ j,j < cnt k → -524288 ≤ lo k j ∧ lo k j ≤ 1 ∧ 7 ≤ hi k j ∧ hi k j ≤ 524287) := fun j hj => rng_ok k j hj
  clear hcode hval hcons
  have hne : ((cnt k : Int) == 0) = false := by rw [beq_eq_false_iff_ne]; omega
  generalize cnt k = c at *
  clear h0
  go_enter Tryz.func106,Tryz.ntmps106
  go_wp2_with fail
  refine (C.out _).mono ?_
  rintro e w1 ⟨rfl,hf1⟩
  have X1 : Hid (Box w1 w.heap.size 0 (f3 0 0 0)) := Box.quiet HX0.out hf1
  have HF1 : Hid (Fr Nobody w w1) := Fr.trans HF0.out hf1
  have hs1 : w.heap.size < w1.heap.size := (Array.getElem?_eq_some_iff.1 X1.out).1
  have Y1 : Hid (Box (w1.alloc (.cells #[.int .u8 (k : Int),.int .i32 0,.int .i32 0,.int .i32 0] 63)) w1.heap.size k (f3 0 0 0)) := Box.new w1 k (f3 0 0 0)
  clear hf1
  go_wp2_with fail
  refine (C.out _).mono ?_
  rintro e w2 ⟨rfl,hf2⟩
  have X2 : Hid (Box w2 w.heap.size 0 (f3 0 0 0)) := (X1.out.quiet ((Fr.refl _ _).alloc _)).quiet hf2
  have Y2 : Hid (Box w2 w1.heap.size k (f3 0 0 0)) := Y1.out.quiet hf2
  have HF2 : Hid (Fr Nobody w w2) := (HF1.out.alloc _).trans hf2
  clear hf2 X1 Y1 HX0 HF0
  go_wp2
  go_loopw [8,26] (fun rv a wr => ∃ j : Nat,j ≤ c ∧ a = .int .i64 j ∧ (rat code cons t j).1 = 0 ∧ Bs wr rv ((bitsB P).drop (rat code cons t j).2) ∧ Box wr w1.heap.size k (upd code val cons t (f3 0 0 0) j) ∧ Box wr w.heap.size 0 (f3 0 0 0) ∧ Fr Nobody w wr) (fun _ a _ => c - (intOf a).toNat)
  case atStart => exact ⟨0,by omega,rfl,rfl,H.out.quiet HF2.out,by rw [upd_zero]; exact Y2.out,X2.out,HF2.out⟩
  case round =>
   obtain ⟨j,hj,rfl,hz,hB,hb1,hb2,hf⟩ := hrel
   have HZ : Hid ((rat code cons t j).1 = 0) := hz
   have HB : Hid (Bs wr u8 ((bitsB P).drop (rat code cons t j).2)) := hB
   have B1 : Hid (Box wr w1.heap.size k (upd code val cons t (f3 0 0 0) j)) := hb1
   have B2 : Hid (Box wr w.heap.size 0 (f3 0 0 0)) := hb2
   have HG : Hid (Fr Nobody w wr) := hf
   clear hz hB hb1 hb2 hf X2 Y2 HF2 HF1
   by_cases hlt2 : j < c
   ·have RJ : Hid (∀ w,_) := fun w => RR.out w j hlt2
    have GJ : Hid (∀ w v,Bs w v ((bitsB P).drop (rat code cons t j).2) → _) := fun w v hb => G.out w v (rat code cons t j).2 j hlt2 hb
    obtain ⟨l0,l1,l2,l3⟩ := RB.out j hlt2
    obtain ⟨v0,v1⟩ := VR.out (rat code cons t j).2 j hlt2
    have HSN : Hid (rat code cons t (j + 1) = (code (rat code cons t j).2 j,(rat code cons t j).2 + cons (rat code cons t j).2 j)) := by
     show _ = _
     rw [rat,if_pos HZ.out]
    generalize lo k j = x at *
    generalize hi k j = y at *
    go_wp2_with fail
    refine (RJ.out _).mono ?_
    rintro e w3 ⟨rfl,hf3⟩
    have HF3 : Hid (Fr Nobody wr w3) := hf3
    clear hf3
    go_wp2_with fail
    refine (GJ.out _ _ (HB.out.quiet HF3.out)).mono ?_
    rintro e w4 ⟨u,rfl,hU,hf4⟩
    have HF4 : Hid (Fr Nobody wr w4) := HF3.out.trans hf4
    have HU : Hid (Bs w4 u ((bitsB P).drop ((rat code cons t j).2 + cons (rat code cons t j).2 j))) := hU
    have B14 : Hid (Box w4 w1.heap.size k (upd code val cons t (f3 0 0 0) j)) := B1.out.quiet HF4.out
    have B24 : Hid (Box w4 w.heap.size 0 (f3 0 0 0)) := B2.out.quiet HF4.out
    have HG4 : Hid (Fr Nobody w w4) := HG.out.trans HF4.out
    clear hU hf4 HF3 HF4 B1 B2 HB RJ GJ
    by_cases hcd : code (rat code cons t j).2 j = 0
    ·have hx := B14.out.at j (by omega)
     have hfz := B14.out.frozen (1 + j)
     have B13 := B14.out.set (j := j) (by omega) (val (rat code cons t j).2 j)
     have hne2 : w.heap.size ≠ w1.heap.size := by omega
     have B23 : Box (w4.setCell ⟨w1.heap.size,1 + j,none⟩ (.int .i32 (val (rat code cons t j).2 j))) w.heap.size 0 (f3 0 0 0) := (Below.heap_setCell w4 _ _ w.heap.size (by simpa using hne2)).trans B24.out
     have eU : (fun i => if i = j then val (rat code cons t j).2 j else upd code val cons t (f3 0 0 0) j i) = upd code val cons t (f3 0 0 0) (j + 1) := by
      funext i
      unfold upd
      by_cases e1 : i = j
      ·subst e1; simp
      ·rw [if_neg e1]
       by_cases e2 : i < j
       ·rw [if_pos e2,if_pos (by omega)]
       ·rw [if_neg e2,if_neg (by omega)]
     rw [eU] at B13
     have HN : Hid ((rat code cons t (j + 1)).1 = 0 ∧ Bs (w4.setCell ⟨w1.heap.size,1 + j,none⟩ (.int .i32 (val (rat code cons t j).2 j))) u ((bitsB P).drop (rat code cons t (j + 1)).2) ∧ Box (w4.setCell ⟨w1.heap.size,1 + j,none⟩ (.int .i32 (val (rat code cons t j).2 j))) w1.heap.size k (upd code val cons t (f3 0 0 0) (j + 1)) ∧ Box (w4.setCell ⟨w1.heap.size,1 + j,none⟩ (.int .i32 (val (rat code cons t j).2 j))) w.heap.size 0 (f3 0 0 0) ∧ Fr Nobody w (w4.setCell ⟨w1.heap.size,1 + j,none⟩ (.int .i32 (val (rat code cons t j).2 j)))) := by
      rw [HSN.out]
      exact ⟨hcd,HU.out.setBox B14.out _,B13,B23,HG4.out.setCell (p := ⟨w1.heap.size,1 + j,none⟩) (.inr (by show w.heap.size ≤ w1.heap.size; omega)) _⟩
     rw [hcd]
     clear B13 B23 eU HSN hcd B14 B24 HG4 HU
     generalize upd code val cons t (f3 0 0 0) j j = ov at *
     generalize val (rat code cons t j).2 j = x1 at *
     go_wp2
     go_roundw
     case rel => exact ⟨j + 1,by omega,by go_num,HN.out.1,HN.out.2.1,HN.out.2.2.1,HN.out.2.2.2.1,HN.out.2.2.2.2⟩
     case measure => simp [intOf]; omega
    ·have hne3 : (code (rat code cons t j).2 j != 0) = true := by rw [bne_iff_ne]; exact hcd
     have HEND : Hid (gcode k P t = code (rat code cons t j).2 j) := by
      show _ = _
      rw [EG.out]
      have : c = (j + 1) + (c - (j + 1)) := by omega
      rw [this,rat_err code cons t (j + 1) _ (by rw [HSN.out]; exact hcd),HSN.out]
     have HV : Hid (RV = cmp 0 (f3 0 0 0)) := HV2.out (by rw [HEND.out]; exact hcd)
     have HGC : Hid (gcons k P t = 0) := HG0.out (by rw [HEND.out]; exact hcd)
     obtain ⟨y0,y1,y2,y3⟩ := B24.out.cells
     have z0 := B24.out.frozen 0
     have z1 := B24.out.frozen 1
     have z2 := B24.out.frozen 2
     have z3 := B24.out.frozen 3
     have HRX : Hid (Box (put4 w4 w.heap.size 0 (f3 0 0 0)) w.heap.size 0 (f3 0 0 0)) := put4_box B24.out
     have HRD : Hid (Fr Nobody w (put4 w4 w.heap.size 0 (f3 0 0 0))) := put4_fr HG4.out (.inr (Nat.le_refl _))
     clear HSN B14 B24 HG4 hcd HU
     simp only [f3] at y1 y2 y3
     generalize code (rat code cons t j).2 j = cd at *
     generalize val (rat code cons t j).2 j = x1 at *
     go_wp2
     (try simp only [Exit.inBlock,Exit.then])
     refine bodyPost_ret (v := .tuple #[.agg #[.int .u8 0,.int .i32 0,.int .i32 0,.int .i32 0],v,.int .i64 cd]) ?_ rfl ⟨v,by rw [HV.out,HEND.out]; rfl,?_,HRD.out⟩
     ·simp only [results,hres]
      obtain ⟨r0,r1,r2,r3⟩ := HRX.out.cells
      simp only [put4,f3] at r0 r1 r2 r3
      go_simp
     ·rw [HGC.out]
      exact H.out.quiet HRD.out
   ·have e : j = c := by omega
    subst e
    have HV : Hid (RV = cmp k (upd code val cons t (f3 0 0 0) j)) := by rw [← EF.out]; exact HV1.out (EG.out.trans HZ.out)
    have HE0 : Hid (gcode k P t = 0) := EG.out.trans HZ.out
    have HGC : Hid (t + gcons k P t = (rat code cons t j).2) := by
     show _ = _
     rw [EN.out (EG.out.trans HZ.out)]
     have := rat_ge code cons t j
     omega
    obtain ⟨x0,x1,x2,x3⟩ := B1.out.cells
    obtain ⟨y0,y1,y2,y3⟩ := B2.out.cells
    have z0 := B2.out.frozen 0
    have z1 := B2.out.frozen 1
    have z2 := B2.out.frozen 2
    have z3 := B2.out.frozen 3
    have HRX : Hid (Box (put4 wr w.heap.size k (upd code val cons t (f3 0 0 0) j)) w.heap.size k (upd code val cons t (f3 0 0 0) j)) := put4_box B2.out
    have HRD : Hid (Bs (put4 wr w.heap.size k (upd code val cons t (f3 0 0 0) j)) u8 ((bitsB P).drop (rat code cons t j).2) ∧ Fr Nobody w (put4 wr w.heap.size k (upd code val cons t (f3 0 0 0) j))) := ⟨HB.out.put4 B2.out,put4_fr HG.out (.inr (Nat.le_refl _))⟩
    clear B1 B2 HB HG G RR
    simp only [f3] at y1 y2 y3
    go_wp2
    (try simp only [Exit.inBlock,Exit.then])
    refine bodyPost_ret (v := .tuple #[.agg #[.int .u8 (k : Int),.int .i32 (upd code val cons t (f3 0 0 0) j 0),.int .i32 (upd code val cons t (f3 0 0 0) j 1),.int .i32 (upd code val cons t (f3 0 0 0) j 2)],u8,.int .i64 0]) ?_ rfl ⟨u8,by rw [HV.out,HE0.out]; rfl,?_,HRD.out.2⟩
    ·simp only [results,hres]
     obtain ⟨r0,r1,r2,r3⟩ := HRX.out.cells
     simp only [put4] at r0 r1 r2 r3
     go_simp
    ·rw [HGC.out]
     exact HRD.out.1
theorem Box.grown {B : Nat} {w w' : World} {b k : Nat} {F : Nat → Int} {v : Value} {L : List Bool} (h : Box w b k F) (hv : Bo B w v L) (hg : w.grownBy w' v.ownBlock) : Box w' b k F := by
 refine (hg.block b (Array.getElem?_eq_some_iff.1 h).1 ?_).trans h
 intro e
 rcases hv.2 with ⟨rfl,_⟩ | ⟨g',cap,cur,rfl,_,hgg,_⟩
 ·simp [Value.ownBlock] at e
 ·simp [Value.ownBlock] at e
  subst e
  unfold Box at h
  rw [hgg] at h
  simp at h
theorem rputC_ok (w : World) (k : Nat) (hk : k < 256) (F : Nat → Int) (h0 : chk k F = 0) :
  Calls Tryz.prog 124 #[.agg (cmp k F)] w fun e w' => ∃ v,e = .returned (.tuple #[v,.int .i64 0]) ∧ Bo w.heap.size w' v (cb k F (cnt k)) ∧ Fr Nobody w w' := by
 obtain ⟨h6,hr,_⟩ := chk_ok k F h0
 have hc := cnt_le k
 have HB : Hid (Box (w.alloc (.cells (cmp k F) 63)) w.heap.size k F) := Box.new w k F
 have HF : Hid (Fr Nobody w (w.alloc (.cells (cmp k F) 63))) := (Fr.refl _ _).alloc _
 have K : Hid (∀ w,Calls Tryz.prog 107 #[.agg (cmp k F)] w fun e w' => e = .returned (.int .i64 0) ∧ Fr Nobody w w') := fun w => by have := rcheck_any w k hk F; rw [h0] at this; exact this
 have C : Hid (∀ w,_) := fun w => rcount_any w k hk
 have R : Hid (∀ w j,j < cnt k → _) := fun w j hj => rrange_ok w k j hj
 have RB : Hid (∀ j,j < cnt k → (-524288 ≤ lo k j ∧ lo k j ≤ 1 ∧ 7 ≤ hi k j ∧ hi k j ≤ 524287) ∧ lo k j ≤ F j ∧ F j ≤ hi k j) := fun j hj => ⟨rng_ok k j hj,hr j hj⟩
 have I : Hid (∀ w j,j < cnt k → Calls Tryz.prog 123 #[.int .i64 (F j),.int .i64 (lo k j),.int .i64 (hi k j)] w fun e w' => ∃ v,e = .returned (.tuple #[v,.int .i64 0]) ∧ Bo w.heap.size w' v (fb k F j) ∧ Fr Nobody w w') := fun w j hj => by
  obtain ⟨l0,l1,l2,l3⟩ := rng_ok k j hj
  have := hr j hj
  exact rin_ok (F j) (lo k j) (hi k j) (F j - lo k j).toNat w (by omega) (by omega) (by omega) this.1 this.2
 have HL : Hid (∀ j,j ≤ cnt k → (cb k F j).length ≤ 60) := fun j hj => by rw [length_cb]; have := bsum_le k j hj; omega
 have HL2 : Hid (∀ j,j < cnt k → (fb k F j).length ≤ 60) := fun j hj => by rw [length_fb]; have := wd_le k j hj; omega
 clear h0 hr
 generalize cnt k = c at *
 unfold cmp at *
 go_enter Tryz.func124,Tryz.ntmps124
 go_wp2_with fail
 refine (K.out _).mono ?_
 rintro e w1 ⟨rfl,hf1⟩
 have F1 : Hid (Fr Nobody w w1) := HF.out.trans hf1
 have B1 : Hid (Box w1 w.heap.size k F) := Box.quiet HB.out hf1
 have c0 := B1.out.kind
 clear hf1
 go_wp2_with fail
 refine (C.out _).mono ?_
 rintro e w2 ⟨rfl,hf2⟩
 have F2 : Hid (Fr Nobody w w2) := F1.out.trans hf2
 have B2 : Hid (Box w2 w.heap.size k F) := B1.out.quiet hf2
 clear hf2 c0 F1 B1 HB HF K
 go_wp2
 go_loopw [5,20] (fun u a wr => ∃ j : Nat,j ≤ c ∧ a = .int .i64 j ∧ Bo w.heap.size wr u (cb k F j) ∧ Box wr w.heap.size k F ∧ Fr Nobody w wr) (fun _ a _ => c - (intOf a).toNat)
 case atStart => exact ⟨0,by omega,rfl,Bo.nil _ _,B2.out,F2.out⟩
 case round =>
  obtain ⟨j,hj,rfl,hu,hb,hf⟩ := hrel
  have U : Hid (Bo w.heap.size wr u5 (cb k F j)) := hu
  have B3 : Hid (Box wr w.heap.size k F) := hb
  have F3 : Hid (Fr Nobody w wr) := hf
  clear hu hb hf B2 F2
  by_cases hlt : j < c
  ·have RJ : Hid (∀ w,_) := fun w => R.out w j hlt
   have IJ : Hid (∀ w,_) := fun w => I.out w j hlt
   obtain ⟨⟨l0,l1,l2,l3⟩,r0,r1⟩ := RB.out j hlt
   have hl1 := HL.out j (by omega)
   have hl2 := HL2.out j hlt
   have HCB : Hid (cb k F (j + 1) = cb k F j ++ fb k F j) := rfl
   have c0 := B3.out.kind
   generalize lo k j = x at *
   generalize hi k j = y at *
   generalize fb k F j = M at *
   generalize cb k F j = L at *
   go_wp2_with fail
   refine (RJ.out _).mono ?_
   rintro e w3 ⟨rfl,hf3⟩
   have F4 : Hid (Fr Nobody wr w3) := hf3
   have c1 := (B3.out.quiet hf3).at j (by omega)
   clear hf3
   generalize F j = f at *
   go_wp2_with fail
   refine (IJ.out _).mono ?_
   rintro e w4 ⟨v4,rfl,hV4,hf4⟩
   have F5 : Hid (Fr Nobody wr w4) := F4.out.trans hf4
   have V4 : Hid (Bs w4 v4 M) := hV4.bs
   have U4 : Hid (Bo w.heap.size w4 u5 L) := U.out.quiet F5.out
   have B4 : Hid (Box w4 w.heap.size k F) := B3.out.quiet F5.out
   have F6 : Hid (Fr Nobody w w4) := F3.out.trans F5.out
   clear hV4 hf4 c0 c1
   go_wp2_with (at_builtin; refine append_bits rfl _ _ rfl w.heap.size _ _ L M U4.out V4.out (by omega) (by omega) F6.out.size rfl rfl ?_)
   intro v5 w5 hU5 hg5
   have U5 : Hid (Bo w.heap.size w5 v5 (cb k F (j + 1))) := by rw [HCB.out]; exact hU5
   have B5 : Hid (Box w5 w.heap.size k F) := B4.out.grown U4.out hg5
   have F7 : Hid (Fr Nobody w w5) := F6.out.grown hg5 (fun q hq => .inr (World.ownsRow.lt U4.out q hq).1)
   clear hU5 hg5
   go_wp2
   go_roundw
   case rel => exact ⟨j + 1,by omega,by go_num,U5.out,B5.out,F7.out⟩
   case measure => simp [intOf]; omega
  ·have e : j = c := by omega
   subst e
   go_wp2
   go_ret2
   exact ⟨_,rfl,U.out,F3.out⟩
end Go.Proofs.YtgifeckbflkkpaaGreatDoor
