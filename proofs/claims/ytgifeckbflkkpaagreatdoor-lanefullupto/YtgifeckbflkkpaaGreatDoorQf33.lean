/- The delta between two snapshots can be told. -/
import Derived.Test.YtgifeckbflkkpaaGreatDoorQf32
import Derived.Test.YtgifeckbflkkpaaGreatDoorQf17
import Derived.Test.YtgifeckbflkkpaaGreatDoorQf28
import Derived.Test.YtgifeckbflkkpaaGreatDoorQf21
import Derived.Test.YtgifeckbflkkpaaGreatDoorQf26
namespace Go.Proofs.YtgifeckbflkkpaaGreatDoor
open Go.RowKit
set_option linter.unusedVariables false
set_option maxHeartbeats 2000000
set_option maxRecDepth 100000
theorem fstE_hit {L : List En} {i : Nat} {e : En} (h : fstE L i = some e) : e ∈ L ∧ e.1 = i := by
 unfold fstE at h
 exact ⟨List.mem_of_find?_eq_some h,by simpa using List.find?_some h⟩
theorem chgO_of {W : List En} {e : En} {c : Chg} (h : chgO W e = some c) : ∃ w,fstE W e.1 = some w ∧ c = chg1 w e := by
 unfold chgO at h
 rcases hw : fstE W e.1 with _ | w
 ·rw [hw] at h; simp at h
 ·rw [hw] at h
  simp only [Option.bind_some] at h
  split at h
  ·cases h
  ·cases h; exact ⟨w,rfl,rfl⟩
theorem chg_up (W : List En) : ∀ {N : List En},N.Pairwise (fun a b => a.1 < b.1) → ((N.filterMap (chgO W)).map Chg.id).Pairwise (· < ·) := by
 intro N
 induction N with
 | nil => intro _; exact List.Pairwise.nil
 | cons x t ih =>
  intro h
  have h1 := List.pairwise_cons.1 h
  rw [List.filterMap_cons]
  rcases hx : chgO W x with _ | c
  ·exact ih h1.2
  ·refine List.pairwise_cons.2 ⟨fun i hi => ?_,ih h1.2⟩
   obtain ⟨c',hc',rfl⟩ := List.mem_map.1 hi
   obtain ⟨y,hy,hyc⟩ := List.mem_filterMap.1 hc'
   obtain ⟨w1,_,e1⟩ := chgO_of hx
   obtain ⟨w2,_,e2⟩ := chgO_of hyc
   rw [e1,e2]
   exact h1.1 y hy
theorem un_sub {C D : List Cp} (h : un C = false) (hs : ∀ q ∈ D,q ∈ C) : un D = false := by
 unfold un at h ⊢
 rw [List.any_eq_false] at h ⊢
 exact fun q hq => h q (hs q hq)
theorem val32n : ∀ (a b c d e : Bool),val a b c d e false < 32 := by decide
theorem lost32 {A B : List Cp} (h : un A = false) : lostm A B < 32 := by
 have h5 : hasK A 5 = false := by
  cases hh : hasK A 5 with
  | false => rfl
  | true =>
   obtain ⟨x,hx⟩ := hasK_fst hh
   have h1 := fst_some hx
   unfold un at h
   rw [List.any_eq_false] at h
   have := h x h1.1
   rw [h1.2,told5] at this
   simp at this
 rw [lost_val,h5]
 exact val32n _ _ _ _ _
theorem chOk_of {W N : List En} (hW : fm 0 W = 0) (hN : fm 0 N = 0) {e : En} (he : e ∈ N) (h32 : e.1 < 4294967296) {c : Chg} (h : chgO W e = some c) : ChOk W c := by
 obtain ⟨x,hx,rfl⟩ := chgO_of h
 obtain ⟨hxm,hxi⟩ := fstE_hit hx
 obtain ⟨a1,a2,a3⟩ := fm_each hW x hxm
 obtain ⟨b1,b2,b3⟩ := fm_each hN e he
 have hla := lst_ok a2
 have hlb := lst_ok b2
 have hwas : wasC W e.1 = x.2 := by unfold wasC; rw [hx]; rfl
 have hfc : ∀ {k : Nat} {C : List Cp},(∀ q ∈ C,q ∈ e.2) → ∀ q ∈ C,q.k < 256 ∧ chk q.k (f3 q.a q.b q.c) = 0 := fun hs q hq => ⟨by have := chk_k (hlb.2 q (hs q hq)).2; omega,(hlb.2 q (hs q hq)).2⟩
 have hn : ∀ q ∈ e.2.filter (isNew x.2),q ∈ e.2 := fun q hq => (List.mem_filter.1 hq).1
 have hs : ∀ q ∈ e.2.filter (isSet x.2),q ∈ e.2 := fun q hq => (List.mem_filter.1 hq).1
 refine ⟨by show 0 < e.1; omega,h32,lost32 a3,msk_lt32 (un_sub b3 hn),msk_lt32 (un_sub b3 hs),hfc (k := 0) hn,fun q hq => (hfc (k := 0) hs q hq).1,?_,⟨x,hx⟩⟩
 intro q hq
 have h1 := List.mem_filter.1 hq
 obtain ⟨y,hy,_⟩ := isSet_iff.1 h1.2
 refine ⟨y,?_,?_,(hlb.2 q h1.1).2⟩
 ·show fst (wasC W e.1) q.k = some y
  rw [hwas]; exact hy
 ·have h2 := fst_some hy
  have h3 := (hla.2 y h2.1).2
  rw [← h2.2]
  exact h3
theorem dtOk_of {W N : List EnE} {d : DlE} (hW : fm 0 (evs W) = 0) (hN : fm 0 (evs N) = 0) (hIW : EIn W) (hIN : EIn N) (hd : d.v = btw (evs W) (evs N)) : DtOk (evs W) d := by
 have sW := Snap.of hW
 have sN := Snap.of hN
 rw [btw_dlt _ _ sW.up sN.up] at hd
 have hg : d.G = ((evs W).filter (fun e => (fstE (evs N) e.1).isNone)).map (·.1) := congrArg Dl.gone hd
 have hm : evs d.M = (evs N).filter (fun e => (fstE (evs W) e.1).isNone) := congrArg Dl.come hd
 have hh : d.H.map ChE.v = (evs N).filterMap (chgO (evs W)) := congrArg Dl.chg hd
 have hids : d.H.map (·.id) = ((evs N).filterMap (chgO (evs W))).map Chg.id := by rw [← hh,List.map_map]; rfl
 refine ⟨?_,?_,?_,?_,?_,?_,?_⟩
 ·rw [hg]; exact List.pairwise_map.2 (sW.up.filter _)
 ·intro i hi
  rw [hg] at hi
  obtain ⟨e,he,rfl⟩ := List.mem_map.1 hi
  have he2 := (List.mem_filter.1 he).1
  have h1 := (fm_each hW e he2).1
  obtain ⟨y,hy,rfl⟩ := List.mem_map.1 he2
  exact ⟨by simp only; omega,(hIW y hy).1⟩
 ·intro x hx
  have h1 : (x.id,x.C) ∈ evs d.M := List.mem_map.2 ⟨x,hx,rfl⟩
  rw [hm] at h1
  obtain ⟨y,hy,hye⟩ := List.mem_map.1 (List.mem_filter.1 h1).1
  have h2 := hIN y hy
  have e1 : y.id = x.id := congrArg Prod.fst hye
  have e2 : y.C = x.C := congrArg Prod.snd hye
  rw [e1,e2] at h2
  exact h2
 ·rw [hm]; exact sN.up.filter _
 ·intro x hx
  rw [hm] at hx
  exact fm_each hN x (List.mem_filter.1 hx).1
 ·rw [hids]; exact chg_up _ sN.up
 ·intro x hx
  have h1 : x.v ∈ d.H.map ChE.v := List.mem_map.2 ⟨x,hx,rfl⟩
  rw [hh] at h1
  obtain ⟨e,he,hec⟩ := List.mem_filterMap.1 h1
  obtain ⟨y,hy,rfl⟩ := List.mem_map.1 he
  exact chOk_of hW hN he (hIN y hy).1 hec
def Nums (k : IntKind) (w : World) (v : Value) (X : List Nat) : Prop := ∃ ao cap,v = .slice ao X.length cap ∧ (X = [] ∨ ∃ g o,ao = some ⟨g,o,none⟩ ∧ ∀ (j x : Nat),X[j]? = some x → w.cell? ⟨g,o + j,none⟩ = some (.int k (x : Int)))
theorem Own.nums {w0 w : World} {l : List Thing} {e : TypeId} {k : IntKind} {v : Value} {X : List Nat} (h : Own w0 w (Row e 1 v X.length (irow k X) :: l)) : Nums k w v X := by
 have r := h.row
 obtain ⟨ao,cap,rfl⟩ := row_any r
 refine ⟨ao,cap,rfl,?_⟩
 by_cases h0 : X.length = 0
 ·exact .inl (List.eq_nil_of_length_eq_zero h0)
 ·right
  obtain ⟨g,c,he,_⟩ := row_shape r (by omega)
  cases he
  refine ⟨g,0,rfl,fun j x hx => ?_⟩
  have hj := (List.getElem?_eq_some_iff.1 hx).1
  rw [Nat.zero_add,r.cellAt _ (by omega),getElem?_irow,hx]; rfl
theorem Nums.quiet {k : IntKind} {w w' : World} {v : Value} {X : List Nat} (h : Nums k w v X) (hf : Fr Nobody w w') : Nums k w' v X := by
 obtain ⟨ao,cap,rfl,h⟩ := h
 refine ⟨ao,cap,rfl,?_⟩
 rcases h with h | ⟨g,o,ha,hc⟩
 ·exact .inl h
 ·refine .inr ⟨g,o,ha,fun j x hx => ?_⟩
  have h1 := hc j x hx
  exact (hf.cell (p := ⟨g,o + j,none⟩) (World.block_lt_of_cell? w _ h1) id).trans h1
instance : DecidableEq Chg := fun x y => decidable_of_iff (x.id = y.id ∧ x.lost = y.lost ∧ x.new = y.new ∧ x.set = y.set) (by cases x; cases y; simp)
instance : DecidableEq Dl := fun x y => decidable_of_iff (x.gone = y.gone ∧ x.come = y.come ∧ x.chg = y.chg) (by cases x; cases y; simp)
theorem Nums.at {k : IntKind} {w : World} {ao : Option Addr} {n cap : Nat} {X : List Nat} (h : Nums k w (.slice ao n cap) X) {j x : Nat} (hx : X[j]? = some x) : ∃ g o,ao = some ⟨g,o,none⟩ ∧ w.cell? ⟨g,o + j,none⟩ = some (.int k (x : Int)) := by
 obtain ⟨a,c,e,h⟩ := h
 simp only [Value.slice.injEq] at e
 rcases h with h | ⟨g,o,ha,hc⟩
 ·rw [h] at hx; simp at hx
 ·exact ⟨g,o,by rw [e.1,ha],hc j x hx⟩
theorem Nums.len {k : IntKind} {w : World} {ao : Option Addr} {n cap : Nat} {X : List Nat} (h : Nums k w (.slice ao n cap) X) : X.length = n := by
 obtain ⟨a,c,e,h⟩ := h
 simp only [Value.slice.injEq] at e
 exact e.2.1.symm
def ChsAt (w : World) (ao : Option Addr) (L : List ChE) : Prop := (L = [] ∨ ∃ g o,ao = some ⟨g,o,none⟩ ∧ ∀ (j : Nat) x,L[j]? = some x → w.cell? ⟨g,o + j * 4,none⟩ = some (.int .u32 (x.id : Int)) ∧ w.cell? ⟨g,o + j * 4 + 1,none⟩ = some (.int .u8 (x.lost : Int)) ∧ w.cell? ⟨g,o + j * 4 + 2,none⟩ = some (.slice x.na x.N.length x.nc) ∧ w.cell? ⟨g,o + j * 4 + 3,none⟩ = some (.slice x.sa x.S.length x.sc)) ∧ ∀ x ∈ L,Cs w x.na x.N ∧ Cs w x.sa x.S
theorem ChsAt.quiet {w w' : World} {ao : Option Addr} {L : List ChE} (h : ChsAt w ao L) (hf : Fr Nobody w w') : ChsAt w' ao L := by
 refine ⟨?_,fun x hx => ⟨(h.2 x hx).1.quiet hf,(h.2 x hx).2.quiet hf⟩⟩
 rcases h.1 with h | ⟨g,o,ha,hc⟩
 ·exact .inl h
 ·refine .inr ⟨g,o,ha,fun j x hx => ?_⟩
  obtain ⟨h0,h1,h2,h3⟩ := hc j x hx
  have hb := World.block_lt_of_cell? w _ h0
  exact ⟨(hf.cell (p := ⟨g,o + j * 4,none⟩) hb id).trans h0,(hf.cell (p := ⟨g,o + j * 4 + 1,none⟩) hb id).trans h1,(hf.cell (p := ⟨g,o + j * 4 + 2,none⟩) hb id).trans h2,(hf.cell (p := ⟨g,o + j * 4 + 3,none⟩) hb id).trans h3⟩
theorem ChsAt.at {w : World} {ao : Option Addr} {L : List ChE} (h : ChsAt w ao L) {j : Nat} {x : ChE} (hx : L[j]? = some x) : ∃ g o,ao = some ⟨g,o,none⟩ ∧ (w.cell? ⟨g,o + j * 4,none⟩ = some (.int .u32 (x.id : Int)) ∧ w.cell? ⟨g,o + j * 4 + 1,none⟩ = some (.int .u8 (x.lost : Int)) ∧ w.cell? ⟨g,o + j * 4 + 2,none⟩ = some (.slice x.na x.N.length x.nc) ∧ w.cell? ⟨g,o + j * 4 + 3,none⟩ = some (.slice x.sa x.S.length x.sc)) ∧ Cs w x.na x.N ∧ Cs w x.sa x.S := by
 rcases h.1 with h0 | ⟨g,o,ha,hc⟩
 ·subst h0; simp at hx
 ·exact ⟨g,o,ha,hc j x hx,h.2 x (List.mem_of_getElem? hx)⟩
def hsz : List ChE → Nat
 | [] => 0
 | x :: t => x.N.length + x.S.length + hsz t
structure DlAt (w : World) (d : DlE) : Prop where
 g : Nums .u32 w (.slice d.ga d.G.length d.gc) d.G
 m : EntsAt w d.ma d.M
 h : ChsAt w d.ha d.H
theorem DlAt.quiet {w w' : World} {d : DlE} (h : DlAt w d) (hf : Fr Nobody w w') : DlAt w' d := ⟨h.g.quiet hf,h.m.quiet hf,h.h.quiet hf⟩
theorem hrows_in {H : List ChE} {x : ChE} (hx : x ∈ H) : ∃ A B,hrows H = A ++ (x.nrow :: x.srow :: B) := by
 obtain ⟨L1,L2,rfl⟩ := List.append_of_mem hx
 exact ⟨hrows L1,hrows L2,by simp [hrows,ChE.rows]⟩
theorem Own.dlAt {w0 w : World} {d : DlE} {l : List Thing} (h : Own w0 w (d.things ++ l)) : DlAt w d := by
 have h1 : Own w0 w (grow1 d.G d.ga d.gc :: EntsT d.ma d.mc d.M :: hrow1 d.H d.ha d.hc :: (hrows d.H ++ l)) := h
 refine ⟨Own.nums h1,h1.two.entsAt,?_,fun x hx => ?_⟩
 ·have hr := h1.three.row
  rcases Nat.eq_zero_or_pos d.H.length with h0 | h0
  ·exact .inl (List.eq_nil_of_length_eq_zero h0)
  ·obtain ⟨g,cp,hv,_⟩ := row_shape hr h0
   refine .inr ⟨g,0,(Value.slice.inj hv).1,fun j x hx => ?_⟩
   have hva := (Value.slice.inj hv).1
   rw [hva] at hr
   have hj := (List.getElem?_eq_some_iff.1 hx).1
   rw [Nat.zero_add,hr.cellAt _ (by omega),hr.cellAt _ (by omega),hr.cellAt _ (by omega),hr.cellAt _ (by omega)]
   exact ⟨cat_at ChE.cs 4 (fun _ => rfl) d.H j 0 x hx (by decide),cat_at ChE.cs 4 (fun _ => rfl) d.H j 1 x hx (by decide),cat_at ChE.cs 4 (fun _ => rfl) d.H j 2 x hx (by decide),cat_at ChE.cs 4 (fun _ => rfl) d.H j 3 x hx (by decide)⟩
 ·obtain ⟨A,B,e⟩ := hrows_in hx
  have h2 := h1.tail.tail.tail
  rw [e,List.append_assoc] at h2
  have h3 : Own w0 w (x.nrow :: x.srow :: (B ++ l)) := h2.dropA
  exact ⟨Own.cs (h3.view (by decide)) rfl,Own.cs (h3.two.view (by decide)) rfl⟩
theorem chz_of (W N : List En) : chz (N.filterMap (chgO W)) ≤ 2 * cszV N := by
 induction N with
 | nil => simp [chz]
 | cons e t ih =>
  rw [List.filterMap_cons]
  rcases hx : chgO W e with _ | c
  ·simp only [cszV]; omega
  ·obtain ⟨x,_,rfl⟩ := chgO_of hx
   have h1 := List.length_filter_le (isNew x.2) e.2
   have h2 := List.length_filter_le (isSet x.2) e.2
   have e1 : (chg1 x e).new.length = (e.2.filter (isNew x.2)).length := rfl
   have e2 : (chg1 x e).set.length = (e.2.filter (isSet x.2)).length := rfl
   simp only [chz,cszV]
   omega
theorem dsz_of {W N : List EnE} {d : DlE} (hW : fm 0 (evs W) = 0) (hN : fm 0 (evs N) = 0) (hd : d.v = btw (evs W) (evs N)) : dsz d ≤ esz W + 4 * esz N := by
 have sW := Snap.of hW
 have sN := Snap.of hN
 have hcs := come_sz (evs W) (evs N)
 rw [← hd] at hcs
 have hc2 : cszV (evs d.M) ≤ cszV (evs N) := hcs
 rw [cszV_evs,cszV_evs] at hc2
 rw [btw_dlt _ _ sW.up sN.up] at hd
 have hg : d.G.length = (((evs W).filter (fun e => (fstE (evs N) e.1).isNone)).map (·.1)).length := congrArg (fun x => x.gone.length) hd
 have hm : (evs d.M).length = ((evs N).filter (fun e => (fstE (evs W) e.1).isNone)).length := congrArg (fun x => x.come.length) hd
 have hh : d.H.map ChE.v = (evs N).filterMap (chgO (evs W)) := congrArg Dl.chg hd
 have h1 := List.length_filter_le (fun e => (fstE (evs N) e.1).isNone) (evs W)
 have h2 := List.length_filter_le (fun e => (fstE (evs W) e.1).isNone) (evs N)
 have h3 := List.length_filterMap_le (chgO (evs W)) (evs N)
 have h4 := chz_of (evs W) (evs N)
 rw [← hh] at h3 h4
 rw [List.length_map] at hg h3
 rw [evs_len] at hm h1 h2 h3
 rw [cszV_evs] at h4
 unfold dsz esz
 omega
theorem content_full (w0 w : World) (ht : Tab w0) (l : List Thing) (p b : Nat) (L : List Bool) (wv : Value) (h : Own w0 w (penC p b :: WrT b L :: l)) (an : Option Addr) (nn cn : Nat) (N : List EnE) (hQ : ∀ w',Own w0 w' l → EntsAt w' an N) (hN : N.length = nn) (hIN : EIn N) (hzN : esz N ≤ 400) (hf : fm 0 (evs N) = 0) (hl : L.length ≤ 1000) :
  Calls Tryz.prog 86 #[.pointer (some ⟨p,0,none⟩),.int .u8 1,wv,.slice an nn cn] w fun e w' => e = .returned (.int .i64 0) ∧ Own w0 w' (penC p b :: WrT b (L ++ (var nn ++ entsB 0 (evs N))) :: l) := by
 have hF := form_any w (ht.quiet h.fr) an nn cn N (hQ w h.tail.tail) hN hIN (by omega)
 rw [hf] at hF
 have HF : Hid (Calls Tryz.prog 60 #[.slice an nn cn] w fun e w' => e = .returned (.int .i64 0) ∧ Fr Nobody w w') := hF
 have HP : Hid (∀ Z,Own w0 Z (penC p b :: WrT b L :: l) → Calls Tryz.prog 130 #[.pointer (some ⟨p,0,none⟩),.slice an nn cn] Z fun e w' => e = .returned (.tuple #[]) ∧ Own w0 w' (penC p b :: WrT b ((L ++ var nn) ++ entsB 0 (evs N)) :: l)) := fun Z hZ => pents w0 Z ht l p b L an nn cn N hZ hQ hN hIN (Snap.of hf).up (fm_each hf) (by omega)
 have H : Hid (Own w0 w (penC p b :: WrT b L :: l)) := h
 have z0 : ((0 : Int) != 0) = false := rfl
 rw [← List.append_assoc]
 clear h hQ hN hIN hzN hf hl hF ht
 go_enter Tryz.func86,Tryz.ntmps86
 go_wp2_with fail
 refine HF.out.mono ?_
 rintro e w1 ⟨rfl,hf1⟩
 have HP1 : Hid (Calls _ _ _ _ _) := HP.out w1 (H.out.quiet hf1)
 clear hf1 HF HP H
 go_wp2_with fail
 refine HP1.out.mono ?_
 rintro e w2 ⟨rfl,h2⟩
 have H2 : Hid (Own w0 w2 _) := h2
 clear h2 HP1
 go_wp2
 go_ret
 exact ⟨rfl,by first | exact H2.out | (rw [← List.append_assoc]; exact H2.out)⟩
theorem content_step (w0 w : World) (ht : Tab w0) (l : List Thing) (p b : Nat) (L : List Bool) (h : Own w0 w (penC p b :: WrT b L :: l)) (aw an : Option Addr) (nw nn cw cn : Nat) (W N : List EnE) (hQ : ∀ w',Own w0 w' l → EntsAt w' aw W ∧ EntsAt w' an N) (hW : W.length = nw) (hN : N.length = nn) (hcw : nw ≤ cw) (hcn : nn ≤ cn) (hmw : cw ≤ 9223372036854775807) (hmn : cn ≤ 9223372036854775807) (hIW : EIn W) (hIN : EIn N) (hzW : esz W ≤ 400) (hzN : esz N ≤ 400) (hf : fm 0 (evs W) = 0) (hg : fm 0 (evs N) = 0) (hl : L.length ≤ 1000) :
  Calls Tryz.prog 86 #[.pointer (some ⟨p,0,none⟩),.int .u8 2,.slice aw nw cw,.slice an nn cn] w fun e w' => e = .returned (.int .i64 0) ∧ Own w0 w' (penC p b :: WrT b (L ++ dltB (evs W) (btw (evs W) (evs N))) :: l) := by
 have HD : Hid (Calls _ _ _ _ _) := diff_any w0 w ht _ h aw an nw nn cw cn W N (fun w' hw => hQ w' hw.tail.tail) hW hN hcw hcn hmw hmn hIW hIN (by omega) (by omega)
 have hdc : dcode (evs W) (evs N) = 0 := by unfold dcode; simp [hf,hg]
 have hdv : dlv (evs W) (evs N) = btw (evs W) (evs N) := by unfold dlv; rw [if_pos hdc]
 rw [hdc,hdv] at HD
 have HPD : Hid (∀ Z (d : DlE) (X : Thing),d.v = btw (evs W) (evs N) → Own w0 Z (penC p b :: WrT b L :: X :: (d.things ++ l)) → Calls Tryz.prog 132 #[.pointer (some ⟨p,0,none⟩),.slice aw nw cw,.agg #[.slice d.ga d.G.length d.gc,.slice d.ma d.M.length d.mc,.slice d.ha d.H.length d.hc]] Z fun e w' => e = .returned (.tuple #[]) ∧ Own w0 w' (penC p b :: WrT b (L ++ dltB (evs W) (btw (evs W) (evs N))) :: X :: (d.things ++ l))) := fun Z d X hd hZ => by
  have hds := dsz_of hf hg hd
  have h1 := pdelta w0 Z ht (X :: (d.things ++ l)) p b L aw nw cw W d hZ (fun w' hw => (hQ w' hw.tail.dropA).1) (fun w' hw j i hi => by
   obtain ⟨g,o,hga,hc⟩ := hw.tail.dlAt.g.at hi
   exact ⟨g,o,hga,hc⟩) (fun w' hw => hw.tail.dlAt.m) (fun w' hw j x hx => by
   obtain ⟨g,o,hga,hc,hn,hs⟩ := hw.tail.dlAt.h.at hx
   exact ⟨g,o,hga,hc,hn,hs⟩) hW (by omega) (Snap.of hf).up (dtOk_of hf hg hIW hIN hd) (by omega)
  rw [hd] at h1
  exact h1
 clear h hQ hW hN hcw hcn hmw hmn hIW hIN hzW hzN hf hg hdc hdv hl ht
 go_enter Tryz.func86,Tryz.ntmps86
 go_wp2_with fail
 refine HD.out.mono ?_
 rintro e w1 ⟨d,rfl,hd,h1⟩
 unfold DlE.vs
 have h2 := (h1.perm (List.perm_append_comm_assoc d.things [penC p b,WrT b L] l)).allocC #[.slice d.ga d.G.length d.gc,.slice d.ma d.M.length d.mc,.slice d.ha d.H.length d.hc] 106
 have q0 := h2.cell 0
 have q1 := h2.cell 1
 have q2 := h2.cell 2
 simp at q0 q1 q2
 have HP : Hid (Calls _ _ _ _ _) := HPD.out _ d _ hd h2.two.in23
 have z0 : ((0 : Int) != 0) = false := rfl
 clear h1 h2 hd HD HPD
 go_wp2_with fail
 refine HP.out.mono ?_
 rintro e w2 ⟨rfl,h3⟩
 have h4 := h3.three.tail
 have H3 : Hid (Own w0 w2 (penC p b :: WrT b (L ++ dltB (evs W) (btw (evs W) (evs N))) :: l)) := by
  have h5 := h4.perm ((List.perm_append_comm_assoc [penC p b,WrT b (L ++ dltB (evs W) (btw (evs W) (evs N)))] d.things l))
  exact h5.dropA
 clear h3 h4 HP q0 q1 q2
 go_wp2
 go_ret
 exact ⟨rfl,H3.out⟩
end Go.Proofs.YtgifeckbflkkpaaGreatDoor
