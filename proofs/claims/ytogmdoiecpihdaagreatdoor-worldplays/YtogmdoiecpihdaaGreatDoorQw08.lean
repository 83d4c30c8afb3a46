/- Package table: columns of fields that lose a row; New, Len, Mask, Row, has, comp, IDs. -/
import Derived.Test.YtogmdoiecpihdaaGreatDoorQw07
import Derived.Laws.BitsAllLaws
import Derived.Carry
import Derived.Deep.RegionWith
namespace Go.Proofs.YtogmdoiecpihdaaGreatDoor
open Go.RowKit Go.Maps
set_option linter.unusedVariables false
set_option maxHeartbeats 2000000
set_option maxRecDepth 100000
theorem fcell {w0 w : World} {l : List Thing} {g n cap : Nat} {G : List Fs} (h : Own w0 w (Row 44 3 (.slice (some ⟨g,0,none⟩) n cap) G.length (cat fc G) :: l)) (i : Nat) (x : Fs) (hx : G[i]? = some x) :
  w.cell? ⟨g,i * 3,none⟩ = some (.int .i32 x.1) ∧ w.cell? ⟨g,i * 3 + 1,none⟩ = some (.int .i32 x.2.1) ∧ w.cell? ⟨g,i * 3 + 2,none⟩ = some (.int .i32 x.2.2) := by
 have hn := (row_cap h.row).1
 subst hn
 have hi := (List.getElem?_eq_some_iff.1 hx).1
 refine ⟨?_,?_,?_⟩
 ·rw [h.row.cellAt _ (by omega)]
  exact (cat_at fc 3 fc_len G i 0 x hx (by decide)).trans rfl
 ·rw [h.row.cellAt _ (by omega)]
  exact (cat_at fc 3 fc_len G i 1 x hx (by decide)).trans rfl
 ·rw [h.row.cellAt _ (by omega)]
  exact (cat_at fc 3 fc_len G i 2 x hx (by decide)).trans rfl
theorem dropF (w0 w : World) (l : List Thing) (b : Nat) (cur : Array Value) (t : TypeId) (p : Nat) (v : Value) (n : Nat) (G : List Fs) (r : Nat) (h : Own w0 w (Cells b cur t :: Row 44 3 v G.length (cat fc G) :: l)) (hl : G.length = n + 1) (hp : cur[p]? = some v) (hr : r < n + 1) (hn : n ≤ 1000000) :
  Calls Tryz.prog 238 #[.pointer (some ⟨b,p,none⟩),.int .i64 (r : Int)] w fun e w' => e = .returned (.tuple #[]) ∧ ∃ g cap,Own w0 w' (Cells b (cur.setIfInBounds p (.slice (some ⟨g,0,none⟩) n cap)) t :: Row 44 3 (.slice (some ⟨g,0,none⟩) n cap) n (cat fc (outr G r)) :: l) := by
 obtain ⟨g,cap,rfl,_⟩ := row_shape h.two.row (by omega)
 have hcap := (row_cap h.two.row).2
 have q := h.cell p
 rw [hp] at q
 have zq := h.froz p
 have hgb : g ≠ b := by
  have := h.ne
  simpa [Value.ownBlock] using this
 have hgb' : b ≠ g := fun e => hgb e.symm
 obtain ⟨x,hx⟩ : ∃ x,G[n]? = some x := ⟨_,List.getElem?_eq_getElem (by omega)⟩
 obtain ⟨y,hy⟩ : ∃ y,G[r]? = some y := ⟨_,List.getElem?_eq_getElem (by omega)⟩
 obtain ⟨c0,c1,c2⟩ := fcell h.two n x hx
 obtain ⟨d0,d1,d2⟩ := fcell h.two r y hy
 have z0 : w.frozen? ⟨g,r * 3,none⟩ = false := h.two.row.frozenAt _
 have z1 : w.frozen? ⟨g,r * 3 + 1,none⟩ = false := h.two.row.frozenAt _
 have z2 : w.frozen? ⟨g,r * 3 + 2,none⟩ = false := h.two.row.frozenAt _
 have hcap2 : n ≤ cap := by omega
 have hcap3 : ¬ cap = 0 := by omega
 have hr' : (r : Int) < (n : Int) + 1 := by omega
 obtain ⟨x0,x1,x2⟩ := x
 simp only at c0 c1 c2
 have HF : Hid (Own w0 ((((w.setCell ⟨g,r * 3,none⟩ (.int .i32 x0)).setCell ⟨g,r * 3 + 1,none⟩ (.int .i32 x1)).setCell ⟨g,r * 3 + 2,none⟩ (.int .i32 x2)).setCell ⟨b,p,none⟩ (.slice (some ⟨g,0,none⟩) n cap)) (Cells b (cur.setIfInBounds p (.slice (some ⟨g,0,none⟩) n cap)) t :: Row 44 3 (.slice (some ⟨g,0,none⟩) n cap) n (cat fc (outr G r)) :: l)) := by
  have h0 := h.two
  rw [hl] at h0
  have h1 := ((((h0.setR (r * 3) (.int .i32 x0)).setR (r * 3 + 1) (.int .i32 x1)).setR (r * 3 + 2) (.int .i32 x2)).cut (m := n) (by omega)).two.setC p (.slice (some ⟨g,0,none⟩) n cap)
  have e : cat fc (outr G r) = ((((cat fc G).set (r * 3) (.int .i32 x0)).set (r * 3 + 1) (.int .i32 x1)).set (r * 3 + 2) (.int .i32 x2)).take (n * 3) := by
   have e1 := cat_set3 G r (x0,x1,x2)
   rw [if_pos (by omega)] at e1
   rw [outr_take G r (x0,x1,x2) (by rw [hl]; exact hx),← cat_take fc 3 fc_len,e1,hl]; rfl
  rw [e]; exact h1
 rw [hl] at q
 clear h hp hx hy
 go_enter Tryz.func238,Tryz.ntmps238
 go_wp2
 go_region
 all_goals
  go_wp2
  go_end0
  exact ⟨rfl,g,cap,HF.out.drew⟩
theorem has_bit (m k : Nat) (hm : m < 64) : (bits .and .u8 ((m : Int) / 2 ^ min k 8) 1 == 1) = bt m k := by
 have h1 : ((m : Int) / 2 ^ min k 8) = ((m / 2 ^ min k 8 : Nat) : Int) := by simp
 have h2 : m / 2 ^ min k 8 < 256 := Nat.lt_of_le_of_lt (Nat.div_le_self _ _) (by omega)
 have h3 := u8_and_nat (m / 2 ^ min k 8) 1 h2 (by decide)
 rw [h1]
 show (bits .and .u8 ((m / 2 ^ min k 8 : Nat) : Int) ((1 : Nat) : Int) == 1) = _
 rw [h3,Nat.and_one_is_mod]
 have e : m / 2 ^ min k 8 = m / 2 ^ k := by
  rcases Nat.le_total k 8 with q | q
  ·rw [Nat.min_eq_left q]
  ·rw [Nat.min_eq_right q]
   have a1 : 2 ^ 8 ≤ 2 ^ k := Nat.pow_le_pow_right (by decide) q
   rw [Nat.div_eq_of_lt (by omega : m < 2 ^ 8),Nat.div_eq_of_lt (by omega)]
 rw [e]
 unfold bt
 generalize m / 2 ^ k = z
 rcases Nat.mod_two_eq_zero_or_one z with q | q <;> rw [q] <;> rfl
section
variable (w0 w : World) (l : List Thing) (b m : Nat) (I : List Nat) (g : Nat → List Fs) (p : Nat → Option Nat) (c : Nat)
theorem TabG.open (h : Own w0 w (TabG b m I g p c :: l)) : ∃ vi v mb,Own w0 w (Cells b (tcells m vi v mb) 311 :: Row 38 1 vi I.length (irow .u32 I) :: RowMap mb c p :: (cols (colT v g) ++ l)) := by
 obtain ⟨⟨vi,v,mb⟩,h⟩ := Own.ex_iff.1 h
 exact ⟨vi,v,mb,h⟩
theorem TabG.shut (vi : Value) (v : Nat → Value) (mb : Nat) (h : Own w0 w (Cells b (tcells m vi v mb) 311 :: Row 38 1 vi I.length (irow .u32 I) :: RowMap mb c p :: (cols (colT v g) ++ l))) : Own w0 w (TabG b m I g p c :: l) :=
 Own.ex_iff.2 ⟨⟨vi,v,mb⟩,h⟩
theorem tnew (h : Own w0 w l) (hm : m < 64) :
  Calls Tryz.prog 241 #[.int .u8 (m : Int)] w fun e w' => ∃ b,e = .returned (.tuple #[.pointer (some ⟨b,0,none⟩),.int .i64 0]) ∧ Own w0 w' (Table b m [] 0 :: l) := by
 have H : Hid (Own w0 w l) := h
 have hm' : ¬ (64 : Int) ≤ (m : Int) := by omega
 have hmm := @run_makeMap Tryz.prog
 clear h
 go_enter Tryz.func241,Tryz.ntmps241
 go_wp2
 go_ret2
 refine ⟨_,rfl,TabG.shut _ _ _ _ _ _ _ _ _ (.slice none 0 0) (fun _ => .slice none 0 0) w.heap.size ?_⟩
 have h1 := (H.out.mapNew.allocC (tcells m (.slice none 0 0) (fun _ => .slice none 0 0) w.heap.size) 311)
 have hs1 : (w.alloc (.map #[] 0)).heap.size = w.heap.size + 1 := by simp
 rw [hs1] at h1
 have h2 : Own w0 _ (RowMap w.heap.size 0 (plc []) :: Cells (w.heap.size + 1) (tcells m (.slice none 0 0) (fun _ => .slice none 0 0) w.heap.size) 311 :: l) := h1.two.mapIs (q := plc []) 0 (Nat.le_refl _) (fun x _ => by simp [plc])
 have e : ∀ k,colT (fun _ => .slice none 0 0) (clm m []) k = Row 44 3 (.slice none 0 0) 0 [] := by intro k; simp [colT,clm,cat]
 have h3 := ((((((h2.nilRow 44 3).nilRow 44 3).nilRow 44 3).nilRow 44 3).nilRow 44 3).nilRow 44 3).nilRow 38 1
 unfold cols
 simp only [e]
 refine h3.perm ?_
 simp only [ids,List.map_nil,List.length_nil,irow,List.cons_append,List.nil_append]
 refine List.Perm.trans ?_ (List.perm_middle (l₁ := [Row 38 1 (.slice none 0 0) 0 [],RowMap w.heap.size 0 (plc []),Row 44 3 (.slice none 0 0) 0 [],Row 44 3 (.slice none 0 0) 0 [],Row 44 3 (.slice none 0 0) 0 [],Row 44 3 (.slice none 0 0) 0 [],Row 44 3 (.slice none 0 0) 0 [],Row 44 3 (.slice none 0 0) 0 []]))
 refine List.Perm.cons _ ?_
 exact List.perm_middle (l₁ := [Row 44 3 (.slice none 0 0) 0 [],Row 44 3 (.slice none 0 0) 0 [],Row 44 3 (.slice none 0 0) 0 [],Row 44 3 (.slice none 0 0) 0 [],Row 44 3 (.slice none 0 0) 0 [],Row 44 3 (.slice none 0 0) 0 []])
theorem tlen (h : Own w0 w (TabG b m I g p c :: l)) :
  Calls Tryz.prog 200 #[.pointer (some ⟨b,0,none⟩)] w fun e w' => e = .returned (.int .i64 (I.length : Int)) ∧ w' = w := by
 obtain ⟨vi,v,mb,h⟩ := TabG.open _ _ _ _ _ _ _ _ _ h
 obtain ⟨ao,cap,rfl⟩ := row_any h.two.row
 have q := h.cell 1
 simp [tcells] at q
 clear h
 go_enter Tryz.func200,Tryz.ntmps200
 go_wp2
 go_ret
 exact ⟨rfl,rfl⟩
theorem tmask (h : Own w0 w (TabG b m I g p c :: l)) :
  Calls Tryz.prog 201 #[.pointer (some ⟨b,0,none⟩)] w fun e w' => e = .returned (.int .u8 (m : Int)) ∧ w' = w := by
 obtain ⟨vi,v,mb,h⟩ := TabG.open _ _ _ _ _ _ _ _ _ h
 have q := h.cell 0
 simp [tcells] at q
 clear h
 go_enter Tryz.func201,Tryz.ntmps201
 go_wp2
 go_ret
 exact ⟨rfl,rfl⟩
theorem trow (h : Own w0 w (TabG b m I g p c :: l)) (id : Nat) (hid : id < 4294967296) :
  Calls Tryz.prog 173 #[.pointer (some ⟨b,0,none⟩),.int .u32 (id : Int)] w fun e w' => e = .returned (lk (p id)) ∧ w' = w := by
 obtain ⟨vi,v,mb,h⟩ := TabG.open _ _ _ _ _ _ _ _ _ h
 have q := h.cell 8
 simp [tcells] at q
 have hl := h.three.mapLook id hid
 clear h
 cases hp : p id with
 | none =>
  rw [hp] at hl
  simp only [lk] at hl ⊢
  go_enter Tryz.func173,Tryz.ntmps173
  go_wp2
  go_ret2
  exact ⟨rfl,rfl⟩
 | some r =>
  rw [hp] at hl
  simp only [lk] at hl ⊢
  go_enter Tryz.func173,Tryz.ntmps173
  go_wp2
  go_ret2
  exact ⟨rfl,rfl⟩
theorem thas (h : Own w0 w (TabG b m I g p c :: l)) (k : Nat) (hk : k < 256) (hm : m < 64) :
  Calls Tryz.prog 197 #[.pointer (some ⟨b,0,none⟩),.int .u8 (k : Int)] w fun e w' => e = .returned (.bool (bt m k)) ∧ w' = w := by
 obtain ⟨vi,v,mb,h⟩ := TabG.open _ _ _ _ _ _ _ _ _ h
 have q := h.cell 0
 simp [tcells] at q
 clear h
 go_enter Tryz.func197,Tryz.ntmps197
 go_wp2
 go_ret
 refine ⟨?_,rfl⟩
 show Ending.returned (.bool (bits .and .u8 ((m : Int) / 2 ^ min k 8) 1 == 1)) = _
 rw [has_bit m k hm]
theorem tcomp (xx : Value × (Nat → Value) × Nat) (h : Own w0 w (TabX b m I g p c xx :: l)) (k : Nat) (hk : k < 6) (r : Nat) (x : Fs) (hx : (g k)[r]? = some x) :
  Calls Tryz.prog 198 #[.pointer (some ⟨b,0,none⟩),.int .i64 (r : Int),.int .u8 (k : Int)] w fun e w' => e = .returned (.agg #[.int .u8 (k : Int),.int .i32 x.1,.int .i32 x.2.1,.int .i32 x.2.2]) ∧ Own w0 w' (TabX b m I g p c xx :: l) := by
 obtain ⟨vi,v,mb⟩ := xx
 obtain ⟨_,h⟩ := Own.ex_iff.1 h
 replace h : Own w0 w (Cells b (tcells m vi v mb) 311 :: Row 38 1 vi I.length (irow .u32 I) :: RowMap mb c p :: (cols (colT v g) ++ l)) := h
 have hA := h.allocC #[.int .u8 0,.int .i32 0,.int .i32 0,.int .i32 0] 46
 have z0 := hA.cell 0
 have z1 := hA.cell 1
 have z2 := hA.cell 2
 have z3 := hA.cell 3
 simp at z0 z1 z2 z3
 have y0 := hA.froz 0
 have y1 := hA.froz 1
 have y2 := hA.froz 2
 have y3 := hA.froz 3
 have hb := h.lt
 have hbn : b ≠ w.heap.size := by omega
 have hbn' : w.heap.size ≠ b := by omega
 have hc := hA.two.cell (2 + k)
 rw [tcells_col m vi v mb k hk] at hc
 have hrl : r < (g k).length := (List.getElem?_eq_some_iff.1 hx).1
 have hR := (Own.col k hk h).two
 obtain ⟨gg,cap,hv,_⟩ := row_shape hR.row (by omega)
 rw [hv] at hc
 unfold colT at hR
 rw [hv] at hR
 obtain ⟨c0,c1,c2⟩ := fcell (hR.alloc (.cells #[.int .u8 0,.int .i32 0,.int .i32 0,.int .i32 0] 46)) r x hx
 have hgg : gg < w.heap.size := (hR.row.lt gg rfl).2
 have hgn : gg ≠ w.heap.size := by omega
 have hgn' : w.heap.size ≠ gg := by omega
 obtain ⟨x0,x1,x2⟩ := x
 simp only at c0 c1 c2 ⊢
 have hk' : (k : Int) < 6 := by omega
 have hrl' : (r : Int) < ((g k).length : Int) := by omega
 have HF : Hid (Own w0 (w.alloc (.cells #[.int .u8 (k : Int),.int .i32 x0,.int .i32 x1,.int .i32 x2] 46)) (Cells w.heap.size #[.int .u8 (k : Int),.int .i32 x0,.int .i32 x1,.int .i32 x2] 46 :: TabX b m I g p c (vi,v,mb) :: l)) := by
  have h1 := h.allocC #[.int .u8 (k : Int),.int .i32 x0,.int .i32 x1,.int .i32 x2] 46
  exact Own.ex2.2 ⟨(),h1⟩
 generalize (g k).length = gl at *
 clear h hA hR hx hv
 go_enter Tryz.func198,Tryz.ntmps198
 go_wp2
 (try simp only [Exit.inBlock,Exit.then])
 refine bodyPost_ret (v := .agg #[.int .u8 (k : Int),.int .i32 x0,.int .i32 x1,.int .i32 x2]) ?_ rfl ⟨rfl,HF.out.tail⟩
 have r0 := HF.out.cell 0
 have r1 := HF.out.cell 1
 have r2 := HF.out.cell 2
 have r3 := HF.out.cell 3
 simp at r0 r1 r2 r3
 simp only [results]
 go_simp
end
section
variable (w0 w : World) (l : List Thing) (b m : Nat) (L : List Ent) (c : Nat)
def pre (m : Nat) (C : List Cp) (k : Nat) : List Cp := ((List.range k).filter (bt m)).map (fun j => mkc j (fv C j))
theorem pre_succ (m : Nat) (C : List Cp) (k : Nat) : pre m C (k + 1) = if bt m k then pre m C k ++ [mkc k (fv C k)] else pre m C k := by
 unfold pre
 rw [List.range_succ,List.filter_append]
 cases hb : bt m k <;> simp [List.filter,hb]
theorem pre_len (m : Nat) (C : List Cp) (k : Nat) : (pre m C k).length ≤ k := by
 unfold pre; rw [List.length_map]; exact Nat.le_trans (List.length_filter_le _ _) (by simp)
theorem tcompsX (xx : Value × (Nat → Value) × Nat) (h : Own w0 w (TabX b m (ids L) (clm m L) (plc L) c xx :: l)) (hT : TOk m L) (r : Nat) (e : Ent) (he : L[r]? = some e) :
  Calls Tryz.prog 219 #[.pointer (some ⟨b,0,none⟩),.int .i64 (r : Int)] w fun out w' => ∃ ao cap,out = .returned (.slice ao e.2.length cap) ∧ Own w0 w' (Row 46 4 (.slice ao e.2.length cap) e.2.length (ccat e.2) :: TabX b m (ids L) (clm m L) (plc L) c xx :: l) := by
 obtain ⟨i0,hi,hz0,hz1,hz2⟩ := info_parts Tryz.infoComp
 have hm := hT.m64
 have HX : Hid (∀ k,k < 6 → bt m k = true → (clm m L k)[r]? = some (fv e.2 k)) := by
  intro k hk hb
  unfold clm; rw [if_pos hb,List.getElem?_map,he]; rfl
 have HE : Hid (pre m e.2 6 = e.2) := comps_of (hT.ok e (List.mem_of_getElem? he)).1 (hT.ok e (List.mem_of_getElem? he)).2
 have H : Hid (Own w0 w (TabX b m (ids L) (clm m L) (plc L) c xx :: l)) := h
 generalize e.2 = C at *
 clear h he hT
 go_enter Tryz.func219,Tryz.ntmps219
 go_wp2
 go_loopw [5,7] (fun lv cv wr => ∃ k : Nat,k ≤ 6 ∧ cv = .int .u8 k ∧ ∃ ao cap n,n = (pre m C k).length ∧ lv = .slice ao n cap ∧ Own w0 wr (Row 46 4 (.slice ao n cap) n (ccat (pre m C k)) :: TabX b m (ids L) (clm m L) (plc L) c xx :: l)) (fun _ cv _ => 6 - (intOf cv).toNat)
 case atStart => exact ⟨0,by decide,rfl,none,0,0,rfl,rfl,H.out.nilRow _ _⟩
 case round =>
  obtain ⟨k,hk,rfl,ao,cap,n,hn,rfl,hO⟩ := hrel
  have HO : Hid (Own w0 wr (Row 46 4 (.slice ao n cap) n (ccat (pre m C k)) :: TabX b m (ids L) (clm m L) (plc L) c xx :: l)) := hO
  have hn6 : n ≤ 6 := by rw [hn]; exact Nat.le_trans (pre_len m C k) hk
  have HN : Hid (n = (pre m C k).length) := hn
  clear hO H hn
  by_cases hk6 : k < 6
  ·have hk6' : (k : Int) < 6 := by omega
   cases hb : bt m k with
   | true =>
    obtain ⟨x,hx⟩ : ∃ x,x = fv C k := ⟨_,rfl⟩
    have HS : Hid (pre m C (k + 1) = pre m C k ++ [mkc k x]) := by show _ = _; rw [pre_succ,if_pos hb,hx]
    have HC : Hid (∀ w' l',Own w0 w' (TabX b m (ids L) (clm m L) (plc L) c xx :: l') → Calls Tryz.prog 198 #[.pointer (some ⟨b,0,none⟩),.int .i64 (r : Int),.int .u8 (k : Int)] w' fun e w'' => e = .returned (.agg #[.int .u8 (k : Int),.int .i32 x.1,.int .i32 x.2.1,.int .i32 x.2.2]) ∧ Own w0 w'' (TabX b m (ids L) (clm m L) (plc L) c xx :: l')) :=
     fun w' l' h' => tcomp w0 w' l' b m _ _ _ c xx h' k hk6 r x (by rw [HX.out k hk6 hb,hx])
    have HA : Hid (∀ w',Own w0 w' (TabX b m (ids L) (clm m L) (plc L) c xx :: Row 46 4 (.slice ao n cap) n (ccat (pre m C k)) :: l) → Calls Tryz.prog 197 #[.pointer (some ⟨b,0,none⟩),.int .u8 (k : Int)] w' fun e w'' => e = .returned (.bool true) ∧ w'' = w') :=
     fun w' h' => by have := thas w0 w' _ b m _ _ _ c (TabX.tab h') k (by omega) hm; rw [hb] at this; exact this
    clear hx hb
    obtain ⟨x0,x1,x2⟩ := x
    simp only at HC
    go_wp2_with fail
    refine (HA.out _ HO.out.two).mono ?_
    rintro e w2 ⟨rfl,rfl⟩
    go_wp2_with fail
    refine (HC.out _ _ HO.out.two).mono ?_
    rintro e w3 ⟨rfl,hO3⟩
    have H3 : Hid (Own w0 w3 (Row 46 4 (.slice ao n cap) n (ccat (pre m C k)) :: TabX b m (ids L) (clm m L) (plc L) c xx :: l)) := hO3.two
    clear hO3 HO HA HC
    go_wp2_with (at_builtin; refine append1_own rfl _ _ 39 rfl 46 i0 _ 4 16 Tryz.underlying39 hi hz0 hz1 hz2 rfl (by decide) _ _ _ rfl H3.out _ #[.int .u8 (k : Int),.int .i32 x0,.int .i32 x1,.int .i32 x2] (by simp) rfl rfl (by intro u hu; simp at hu; rcases hu with rfl | rfl | rfl | rfl <;> rfl) (by unfold maxLen; omega) (by omega) ?_)
    intro g4 c4 w4 hO4 hsz
    have H4 : Hid (Own w0 w4 (Row 46 4 (.slice (some ⟨g4,0,none⟩) (n + 1) c4) (n + 1) (ccat (pre m C (k + 1))) :: TabX b m (ids L) (clm m L) (plc L) c xx :: l)) := by
     show Own _ _ _
     rw [HS.out,ccat,cat_append]
     exact hO4
    have HL : Hid (n + 1 = (pre m C (k + 1)).length) := by show _ = _; rw [HS.out,List.length_append,← HN.out]; rfl
    clear hO4 H3 hsz
    go_wp2
    go_roundw
    case rel => exact ⟨k + 1,by omega,by go_num,_,_,_,HL.out,rfl,H4.out⟩
    case measure => simp [intOf]; omega
   | false =>
    have HS : Hid (pre m C (k + 1) = pre m C k) := by show _ = _; rw [pre_succ,hb]; rfl
    have HA : Hid (∀ w',Own w0 w' (TabX b m (ids L) (clm m L) (plc L) c xx :: Row 46 4 (.slice ao n cap) n (ccat (pre m C k)) :: l) → Calls Tryz.prog 197 #[.pointer (some ⟨b,0,none⟩),.int .u8 (k : Int)] w' fun e w'' => e = .returned (.bool false) ∧ w'' = w') :=
     fun w' h' => by have := thas w0 w' _ b m _ _ _ c (TabX.tab h') k (by omega) hm; rw [hb] at this; exact this
    clear hb
    go_wp2_with fail
    refine (HA.out _ HO.out.two).mono ?_
    rintro e w2 ⟨rfl,rfl⟩
    clear HA
    go_wp2
    go_roundw
    case rel => exact ⟨k + 1,by omega,by go_num,_,_,n,by rw [HS.out]; exact HN.out,rfl,by rw [HS.out]; exact HO.out⟩
    case measure => simp [intOf]; omega
  ·have hk6' : ¬ (k : Int) < 6 := by omega
   have hk66 : k = 6 := by omega
   subst hk66
   go_wp2
   go_ret
   rw [HE.out] at HO HN
   rw [← HN.out]
   exact ⟨_,_,rfl,HO.out⟩
theorem tcomps (h : Own w0 w (Table b m L c :: l)) (hT : TOk m L) (r : Nat) (e : Ent) (he : L[r]? = some e) :
  Calls Tryz.prog 219 #[.pointer (some ⟨b,0,none⟩),.int .i64 (r : Int)] w fun out w' => ∃ ao cap,out = .returned (.slice ao e.2.length cap) ∧ Own w0 w' (Row 46 4 (.slice ao e.2.length cap) e.2.length (ccat e.2) :: Table b m L c :: l) := by
 obtain ⟨xx,h⟩ := TabX.of h
 refine (tcompsX w0 w l b m L c xx h hT r e he).mono ?_
 rintro out w' ⟨ao,cap,h1,h2⟩
 exact ⟨ao,cap,h1,(TabX.tab h2.two).two⟩
end
def tget (m : Nat) (L : List Ent) (id k : Nat) : Nat × Cp := match plc L id with
 | none => (7,⟨0,0,0,0⟩)
 | some r => if bt m k then (0,mkc k (fv ((L[r]?).map (·.2) |>.getD []) k)) else (10,⟨0,0,0,0⟩)
def Cp.ag (q : Cp) : Value := .agg #[.int .u8 (q.k : Int),.int .i32 q.a,.int .i32 q.b,.int .i32 q.c]
section
variable (w0 w : World) (l : List Thing) (b m : Nat) (L : List Ent) (c : Nat)
theorem bt_lt {m k : Nat} (hm : m < 64) (h : bt m k = true) : k < 6 := by
 unfold bt at h
 rcases Nat.lt_or_ge k 6 with q | q
 ·exact q
 ·have a1 : 2 ^ 6 ≤ 2 ^ k := Nat.pow_le_pow_right (by decide) q
  rw [Nat.div_eq_of_lt (by omega)] at h
  simp at h
theorem tgetC (h : Own w0 w (Table b m L c :: l)) (hT : TOk m L) (id : Nat) (hid : id < 4294967296) (k : Nat) (hk : k < 256) :
  Calls Tryz.prog 153 #[.pointer (some ⟨b,0,none⟩),.int .u32 (id : Int),.int .u8 (k : Int)] w fun e w' => e = .returned (.tuple #[(tget m L id k).2.ag,.int .i64 ((tget m L id k).1 : Int)]) ∧ Own w0 w' (Table b m L c :: l) := by
 have hm := hT.m64
 have hA := h.allocC #[.int .u8 0,.int .i32 0,.int .i32 0,.int .i32 0] 46
 have HR : Hid (Calls _ _ _ _ _) := trow w0 _ _ b m _ _ _ c hA.two id hid
 have HA : Hid (Own w0 _ (Cells w.heap.size #[.int .u8 0,.int .i32 0,.int .i32 0,.int .i32 0] 46 :: Table b m L c :: l)) := hA
 cases hp : plc L id with
 | none =>
  have HV : Hid (tget m L id k = (7,⟨0,0,0,0⟩)) := by show _ = _; unfold tget; rw [hp]
  rw [hp] at HR
  simp only [lk] at HR
  clear h hA hp
  go_enter Tryz.func153,Tryz.ntmps153
  go_wp2_with fail
  refine HR.out.mono ?_
  rintro e w1 ⟨rfl,rfl⟩
  clear HR
  go_wp2
  (try simp only [Exit.inBlock,Exit.then])
  refine bodyPost_ret (v := .tuple #[.agg #[.int .u8 0,.int .i32 0,.int .i32 0,.int .i32 0],.int .i64 7]) ?_ rfl ⟨by rw [HV.out]; rfl,HA.out.tail⟩
  rw [results_cell_tmp rfl]
  go_simp
 | some r =>
  obtain ⟨e,he,hei⟩ := (plc_some hT.ap id r).1 hp
  rw [hp] at HR
  simp only [lk] at HR
  have HH : Hid (Calls _ _ _ _ _) := thas w0 _ _ b m _ _ _ c hA.two k hk hm
  cases hb : bt m k with
  | false =>
   have HV : Hid (tget m L id k = (10,⟨0,0,0,0⟩)) := by show _ = _; unfold tget; rw [hp]; simp [hb]
   rw [hb] at HH
   clear h hA hp hb he
   go_enter Tryz.func153,Tryz.ntmps153
   go_wp2_with fail
   refine HR.out.mono ?_
   rintro e w1 ⟨rfl,rfl⟩
   clear HR
   go_wp2_with fail
   refine HH.out.mono ?_
   rintro e w1 ⟨rfl,rfl⟩
   clear HH
   go_wp2
   (try simp only [Exit.inBlock,Exit.then])
   refine bodyPost_ret (v := .tuple #[.agg #[.int .u8 0,.int .i32 0,.int .i32 0,.int .i32 0],.int .i64 10]) ?_ rfl ⟨by rw [HV.out]; rfl,HA.out.tail⟩
   rw [results_cell_tmp rfl]
   go_simp
  | true =>
   obtain ⟨x,hx⟩ : ∃ x,x = fv e.2 k := ⟨_,rfl⟩
   have HV : Hid (tget m L id k = (0,mkc k x)) := by show _ = _; unfold tget; rw [hp]; simp [hb,he,hx]
   obtain ⟨xx,hX⟩ := TabX.of hA.two
   have HC : Hid (Calls _ _ _ _ _) := tcomp w0 _ _ b m _ _ _ c xx hX k (bt_lt hm hb) r x (by unfold clm; rw [if_pos hb,List.getElem?_map,he,hx]; rfl)
   rw [hb] at HH
   clear h hA hp hb he hx hX
   obtain ⟨x0,x1,x2⟩ := x
   go_enter Tryz.func153,Tryz.ntmps153
   go_wp2_with fail
   refine HR.out.mono ?_
   rintro e w1 ⟨rfl,rfl⟩
   clear HR
   go_wp2_with fail
   refine HH.out.mono ?_
   rintro e w1 ⟨rfl,rfl⟩
   clear HH
   go_wp2_with fail
   refine HC.out.mono ?_
   rintro e w2 ⟨rfl,hO⟩
   replace hO := TabX.tab hO
   have z0 := hO.two.cell 0
   have z1 := hO.two.cell 1
   have z2 := hO.two.cell 2
   have z3 := hO.two.cell 3
   simp at z0 z1 z2 z3
   have y0 := hO.two.froz 0
   have y1 := hO.two.froz 1
   have y2 := hO.two.froz 2
   have y3 := hO.two.froz 3
   have HF : Hid (Own w0 ((((w2.setCell ⟨w.heap.size,0,none⟩ (.int .u8 (k : Int))).setCell ⟨w.heap.size,1,none⟩ (.int .i32 x0)).setCell ⟨w.heap.size,2,none⟩ (.int .i32 x1)).setCell ⟨w.heap.size,3,none⟩ (.int .i32 x2)) (Cells w.heap.size #[.int .u8 (k : Int),.int .i32 x0,.int .i32 x1,.int .i32 x2] 46 :: Table b m L c :: l)) :=
    (((hO.two.setC 0 (.int .u8 (k : Int))).setC 1 (.int .i32 x0)).setC 2 (.int .i32 x1)).setC 3 (.int .i32 x2)
   clear hO HC HA
   simp only
   go_wp2
   (try simp only [Exit.inBlock,Exit.then])
   refine bodyPost_ret (v := .tuple #[.agg #[.int .u8 (k : Int),.int .i32 x0,.int .i32 x1,.int .i32 x2],.int .i64 0]) ?_ rfl ⟨by rw [HV.out]; rfl,HF.out.tail⟩
   rw [results_cell_tmp rfl]
   have r0 := HF.out.cell 0
   have r1 := HF.out.cell 1
   have r2 := HF.out.cell 2
   have r3 := HF.out.cell 3
   simp at r0 r1 r2 r3
   go_simp
theorem tatC (h : Own w0 w (Table b m L c :: l)) (hT : TOk m L) (r : Nat) (e : Ent) (he : L[r]? = some e) (hL : L.length ≤ 1000000) :
  Calls Tryz.prog 174 #[.pointer (some ⟨b,0,none⟩),.int .i64 (r : Int)] w fun out w' => ∃ ao cap,out = .returned (.tuple #[.agg #[.int .u32 (e.1 : Int),.slice ao e.2.length cap],.bool true]) ∧ Own w0 w' (Row 46 4 (.slice ao e.2.length cap) e.2.length (ccat e.2) :: Table b m L c :: l) := by
 obtain ⟨⟨vi,v,mb⟩,h⟩ := TabX.of h
 have hA := h.allocC #[.int .u32 0,.slice none 0 0] 76
 have hrl := (List.getElem?_eq_some_iff.1 he).1
 have hrl' : (r : Int) < (L.length : Int) := by omega
 obtain ⟨g,cap,hvi,HI⟩ : ∃ g cap,vi = .slice (some ⟨g,0,none⟩) L.length cap ∧ Hid (∀ w' l',Own w0 w' (TabX b m (ids L) (clm m L) (plc L) c (vi,v,mb) :: l') → w'.cell? ⟨b,1,none⟩ = some vi ∧ w'.cell? ⟨g,r,none⟩ = some (.int .u32 (e.1 : Int))) := by
  have h' := TabX.open h
  rw [length_ids] at h'
  obtain ⟨g,cap,h2,_⟩ := row_shape h'.two.row (by omega)
  subst h2
  refine ⟨g,cap,rfl,fun w' l' h' => ?_⟩
  have h' := TabX.open h'
  rw [length_ids] at h'
  have q := h'.cell 1
  simp [tcells] at q
  have c1 := h'.two.row.cellAt r (by omega)
  rw [getElem?_irow,ids,List.getElem?_map,he] at c1
  exact ⟨q,c1⟩
 subst hvi
 have HL : Hid (Calls _ _ _ _ _) := tlen w0 _ _ b m _ _ _ c (TabX.tab hA.two)
 have HC : Hid (Calls _ _ _ _ _) := tcompsX w0 _ _ b m L c _ hA.two.drew hT r e he
 obtain ⟨q1,q2⟩ := HI.out _ _ hA.two
 rw [length_ids] at HL
 obtain ⟨eid,eC⟩ := e
 simp only at HC HI q2 ⊢
 clear h hA he
 go_enter Tryz.func174,Tryz.ntmps174
 go_wp2_with fail
 refine HL.out.mono ?_
 rintro out w1 ⟨rfl,rfl⟩
 clear HL
 go_wp2_with fail
 go_region_with (
  go_at_call 219
  refine HC.out.mono ?_
  rintro out w2 ⟨ao,cp,rfl,hO⟩
  obtain ⟨d1,d2⟩ := HI.out _ _ hO.two
  have z0 := hO.three.cell 0
  have z1 := hO.three.cell 1
  simp at z0 z1
  have y0 := hO.three.froz 0
  have y1 := hO.three.froz 1
  have HF : Hid (Own w0 ((w2.setCell ⟨w.heap.size,0,none⟩ (.int .u32 (eid : Int))).setCell ⟨w.heap.size,1,none⟩ (.slice ao eC.length cp)) (Cells w.heap.size #[.int .u32 (eid : Int),.slice ao eC.length cp] 76 :: Row 46 4 (.slice ao eC.length cp) eC.length (ccat eC) :: TabX b m (ids L) (clm m L) (plc L) c (.slice (some ⟨g,0,none⟩) L.length cap,v,mb) :: l)) := (hO.three.setC 0 (.int .u32 (eid : Int))).setC 1 (.slice ao eC.length cp)
  clear hO)
 all_goals
  go_wp2
  (try simp only [Exit.inBlock,Exit.then])
  refine bodyPost_ret (v := .tuple #[.agg #[.int .u32 (eid : Int),.slice ao eC.length cp],.bool true]) ?_ rfl ⟨ao,cp,rfl,(TabX.tab HF.out.tail.two).two⟩
  rw [results_cell_tmp rfl]
  have r0 := HF.out.cell 0
  have r1 := HF.out.cell 1
  simp at r0 r1
  go_simp
end
end Go.Proofs.YtogmdoiecpihdaaGreatDoor
