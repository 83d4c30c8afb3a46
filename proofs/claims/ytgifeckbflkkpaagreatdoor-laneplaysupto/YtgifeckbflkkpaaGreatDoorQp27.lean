/- Lists of IDs, changes, deltas: are they alike? -/
import Derived.Test.YtgifeckbflkkpaaGreatDoorQp23
import Derived.Test.YtgifeckbflkkpaaGreatDoorQp22
import Derived.Test.YtgifeckbflkkpaaGreatDoorQp26
namespace Go.Proofs.YtgifeckbflkkpaaGreatDoor
open Go.RowKit
set_option linter.unusedVariables false
set_option maxHeartbeats 2000000
set_option maxRecDepth 100000
instance : DecidableEq Chg := fun x y => decidable_of_iff (x.id = y.id ∧ x.lost = y.lost ∧ x.new = y.new ∧ x.set = y.set) (by cases x; cases y; simp)
instance : DecidableEq Dl := fun x y => decidable_of_iff (x.gone = y.gone ∧ x.come = y.come ∧ x.chg = y.chg) (by cases x; cases y; simp)
theorem Nums.at {k : IntKind} {w : World} {ao : Option Addr} {n cap : Nat} {X : List Nat} (h : Nums k w (.slice ao n cap) X) {j x : Nat} (hx : X[j]? = some x) : ∃ g o,ao = some ⟨g,o,none⟩ ∧ w.cell? ⟨g,o + j,none⟩ = some (.int k (x : Int)) := by
 obtain ⟨a,c,e,h⟩ := h
 simp only [Value.slice.injEq] at e
 rcases h with h | ⟨g,o,ha,hc⟩
 ·rw [h] at hx; simp at hx
 ·exact ⟨g,o,by rw [e.1,ha],hc j x hx⟩
theorem Nums.len {k : IntKind} {w : World} {ao : Option Addr} {n cap : Nat} {X : List Nat} (h : Nums k w (.slice ao n cap) X) : X.length = n := by
 obtain ⟨a,c,e,h⟩ := h
 simp only [Value.slice.injEq] at e
 exact e.2.1.symm
def ChsAt (w : World) (ao : Option Addr) (L : List ChE) : Prop := (L = [] ∨ ∃ g o,ao = some ⟨g,o,none⟩ ∧ ∀ (j : Nat) x,L[j]? = some x → w.cell? ⟨g,o + j * 4,none⟩ = some (.int .u32 (x.id : Int)) ∧ w.cell? ⟨g,o + j * 4 + 1,none⟩ = some (.int .u8 (x.lost : Int)) ∧ w.cell? ⟨g,o + j * 4 + 2,none⟩ = some (.slice x.na x.N.length x.nc) ∧ w.cell? ⟨g,o + j * 4 + 3,none⟩ = some (.slice x.sa x.S.length x.sc)) ∧ ∀ x ∈ L,Cs w x.na x.N ∧ Cs w x.sa x.S
theorem ChsAt.quiet {w w' : World} {ao : Option Addr} {L : List ChE} (h : ChsAt w ao L) (hf : Fr Nobody w w') : ChsAt w' ao L := by
 refine ⟨?_,fun x hx => ⟨(h.2 x hx).1.quiet hf,(h.2 x hx).2.quiet hf⟩⟩
 rcases h.1 with h | ⟨g,o,ha,hc⟩
 ·exact .inl h
 ·refine .inr ⟨g,o,ha,fun j x hx => ?_⟩
  obtain ⟨h0,h1,h2,h3⟩ := hc j x hx
  have hb := World.block_lt_of_cell? w _ h0
  exact ⟨(hf.cell (p := ⟨g,o + j * 4,none⟩) hb id).trans h0,(hf.cell (p := ⟨g,o + j * 4 + 1,none⟩) hb id).trans h1,(hf.cell (p := ⟨g,o + j * 4 + 2,none⟩) hb id).trans h2,(hf.cell (p := ⟨g,o + j * 4 + 3,none⟩) hb id).trans h3⟩
theorem ChsAt.at {w : World} {ao : Option Addr} {L : List ChE} (h : ChsAt w ao L) {j : Nat} {x : ChE} (hx : L[j]? = some x) : ∃ g o,ao = some ⟨g,o,none⟩ ∧ (w.cell? ⟨g,o + j * 4,none⟩ = some (.int .u32 (x.id : Int)) ∧ w.cell? ⟨g,o + j * 4 + 1,none⟩ = some (.int .u8 (x.lost : Int)) ∧ w.cell? ⟨g,o + j * 4 + 2,none⟩ = some (.slice x.na x.N.length x.nc) ∧ w.cell? ⟨g,o + j * 4 + 3,none⟩ = some (.slice x.sa x.S.length x.sc)) ∧ Cs w x.na x.N ∧ Cs w x.sa x.S := by
 rcases h.1 with h0 | ⟨g,o,ha,hc⟩
 ·subst h0; simp at hx
 ·exact ⟨g,o,ha,hc j x hx,h.2 x (List.mem_of_getElem? hx)⟩
def hsz : List ChE → Nat
 | [] => 0
 | x :: t => x.N.length + x.S.length + hsz t
structure DlAt (w : World) (d : DlE) : Prop where
 g : Nums .u32 w (.slice d.ga d.G.length d.gc) d.G
 m : EntsAt w d.ma d.M
 h : ChsAt w d.ha d.H
theorem DlAt.quiet {w w' : World} {d : DlE} (h : DlAt w d) (hf : Fr Nobody w w') : DlAt w' d := ⟨h.g.quiet hf,h.m.quiet hf,h.h.quiet hf⟩
theorem hrows_in {H : List ChE} {x : ChE} (hx : x ∈ H) : ∃ A B,hrows H = A ++ (x.nrow :: x.srow :: B) := by
 obtain ⟨L1,L2,rfl⟩ := List.append_of_mem hx
 exact ⟨hrows L1,hrows L2,by simp [hrows,ChE.rows]⟩
theorem Own.dlAt {w0 w : World} {d : DlE} {l : List Thing} (h : Own w0 w (d.things ++ l)) : DlAt w d := by
 have h1 : Own w0 w (grow1 d.G d.ga d.gc :: EntsT d.ma d.mc d.M :: hrow1 d.H d.ha d.hc :: (hrows d.H ++ l)) := h
 refine ⟨Own.nums h1,h1.two.entsAt,?_,fun x hx => ?_⟩
 ·have hr := h1.three.row
  rcases Nat.eq_zero_or_pos d.H.length with h0 | h0
  ·exact .inl (List.eq_nil_of_length_eq_zero h0)
  ·obtain ⟨g,cp,hv,_⟩ := row_shape hr h0
   refine .inr ⟨g,0,(Value.slice.inj hv).1,fun j x hx => ?_⟩
   have hva := (Value.slice.inj hv).1
   rw [hva] at hr
   have hj := (List.getElem?_eq_some_iff.1 hx).1
   rw [Nat.zero_add,hr.cellAt _ (by omega),hr.cellAt _ (by omega),hr.cellAt _ (by omega),hr.cellAt _ (by omega)]
   exact ⟨cat_at ChE.cs 4 (fun _ => rfl) d.H j 0 x hx (by decide),cat_at ChE.cs 4 (fun _ => rfl) d.H j 1 x hx (by decide),cat_at ChE.cs 4 (fun _ => rfl) d.H j 2 x hx (by decide),cat_at ChE.cs 4 (fun _ => rfl) d.H j 3 x hx (by decide)⟩
 ·obtain ⟨A,B,e⟩ := hrows_in hx
  have h2 := h1.tail.tail.tail
  rw [e,List.append_assoc] at h2
  have h3 : Own w0 w (x.nrow :: x.srow :: (B ++ l)) := h2.dropA
  exact ⟨Own.cs (h3.view (by decide)) rfl,Own.cs (h3.two.view (by decide)) rfl⟩
theorem chz_of (W N : List En) : chz (N.filterMap (chgO W)) ≤ 2 * cszV N := by
 induction N with
 | nil => simp [chz]
 | cons e t ih =>
  rw [List.filterMap_cons]
  rcases hx : chgO W e with _ | c
  ·simp only [cszV]; omega
  ·obtain ⟨x,_,rfl⟩ := chgO_of hx
   have h1 := List.length_filter_le (isNew x.2) e.2
   have h2 := List.length_filter_le (isSet x.2) e.2
   have e1 : (chg1 x e).new.length = (e.2.filter (isNew x.2)).length := rfl
   have e2 : (chg1 x e).set.length = (e.2.filter (isSet x.2)).length := rfl
   simp only [chz,cszV]
   omega
theorem dsz_of {W N : List EnE} {d : DlE} (hW : fm 0 (evs W) = 0) (hN : fm 0 (evs N) = 0) (hd : d.v = btw (evs W) (evs N)) : dsz d ≤ esz W + 4 * esz N := by
 have sW := Snap.of hW
 have sN := Snap.of hN
 have hcs := come_sz (evs W) (evs N)
 rw [← hd] at hcs
 have hc2 : cszV (evs d.M) ≤ cszV (evs N) := hcs
 rw [cszV_evs,cszV_evs] at hc2
 rw [btw_dlt _ _ sW.up sN.up] at hd
 have hg : d.G.length = (((evs W).filter (fun e => (fstE (evs N) e.1).isNone)).map (·.1)).length := congrArg (fun x => x.gone.length) hd
 have hm : (evs d.M).length = ((evs N).filter (fun e => (fstE (evs W) e.1).isNone)).length := congrArg (fun x => x.come.length) hd
 have hh : d.H.map ChE.v = (evs N).filterMap (chgO (evs W)) := congrArg Dl.chg hd
 have h1 := List.length_filter_le (fun e => (fstE (evs N) e.1).isNone) (evs W)
 have h2 := List.length_filter_le (fun e => (fstE (evs W) e.1).isNone) (evs N)
 have h3 := List.length_filterMap_le (chgO (evs W)) (evs N)
 have h4 := chz_of (evs W) (evs N)
 rw [← hh] at h3 h4
 rw [List.length_map] at hg h3
 rw [evs_len] at hm h1 h2 h3
 rw [cszV_evs] at h4
 unfold dsz esz
 omega
theorem content_full (w0 w : World) (ht : Tab w0) (l : List Thing) (p b : Nat) (L : List Bool) (wv : Value) (h : Own w0 w (penC p b :: WrT b L :: l)) (an : Option Addr) (nn cn : Nat) (N : List EnE) (hQ : ∀ w',Own w0 w' l → EntsAt w' an N) (hN : N.length = nn) (hIN : EIn N) (hzN : esz N ≤ 400) (hf : fm 0 (evs N) = 0) (hl : L.length ≤ 1000) :
  Calls Tryz.prog 86 #[.pointer (some ⟨p,0,none⟩),.int .u8 1,wv,.slice an nn cn] w fun e w' => e = .returned (.int .i64 0) ∧ Own w0 w' (penC p b :: WrT b (L ++ (var nn ++ entsB 0 (evs N))) :: l) := by
 have hF := form_any w (ht.quiet h.fr) an nn cn N (hQ w h.tail.tail) hN hIN (by omega)
 rw [hf] at hF
 have HF : Hid (Calls Tryz.prog 60 #[.slice an nn cn] w fun e w' => e = .returned (.int .i64 0) ∧ Fr Nobody w w') := hF
 have HP : Hid (∀ Z,Own w0 Z (penC p b :: WrT b L :: l) → Calls Tryz.prog 130 #[.pointer (some ⟨p,0,none⟩),.slice an nn cn] Z fun e w' => e = .returned (.tuple #[]) ∧ Own w0 w' (penC p b :: WrT b ((L ++ var nn) ++ entsB 0 (evs N)) :: l)) := fun Z hZ => pents w0 Z ht l p b L an nn cn N hZ hQ hN hIN (Snap.of hf).up (fm_each hf) (by omega)
 have H : Hid (Own w0 w (penC p b :: WrT b L :: l)) := h
 have z0 : ((0 : Int) != 0) = false := rfl
 rw [← List.append_assoc]
 clear h hQ hN hIN hzN hf hl hF ht
 go_enter Tryz.func86,Tryz.ntmps86
 go_wp2_with fail
 refine HF.out.mono ?_
 rintro e w1 ⟨rfl,hf1⟩
 have HP1 : Hid (Calls _ _ _ _ _) := HP.out w1 (H.out.quiet hf1)
 clear hf1 HF HP H
 go_wp2_with fail
 refine HP1.out.mono ?_
 rintro e w2 ⟨rfl,h2⟩
 have H2 : Hid (Own w0 w2 _) := h2
 clear h2 HP1
 go_wp2
 go_ret
 exact ⟨rfl,by first | exact H2.out | (rw [← List.append_assoc]; exact H2.out)⟩
theorem content_step (w0 w : World) (ht : Tab w0) (l : List Thing) (p b : Nat) (L : List Bool) (h : Own w0 w (penC p b :: WrT b L :: l)) (aw an : Option Addr) (nw nn cw cn : Nat) (W N : List EnE) (hQ : ∀ w',Own w0 w' l → EntsAt w' aw W ∧ EntsAt w' an N) (hW : W.length = nw) (hN : N.length = nn) (hcw : nw ≤ cw) (hcn : nn ≤ cn) (hmw : cw ≤ 9223372036854775807) (hmn : cn ≤ 9223372036854775807) (hIW : EIn W) (hIN : EIn N) (hzW : esz W ≤ 400) (hzN : esz N ≤ 400) (hf : fm 0 (evs W) = 0) (hg : fm 0 (evs N) = 0) (hl : L.length ≤ 1000) :
  Calls Tryz.prog 86 #[.pointer (some ⟨p,0,none⟩),.int .u8 2,.slice aw nw cw,.slice an nn cn] w fun e w' => e = .returned (.int .i64 0) ∧ Own w0 w' (penC p b :: WrT b (L ++ dltB (evs W) (btw (evs W) (evs N))) :: l) := by
 have HD : Hid (Calls _ _ _ _ _) := diff_any w0 w ht _ h aw an nw nn cw cn W N (fun w' hw => hQ w' hw.tail.tail) hW hN hcw hcn hmw hmn hIW hIN (by omega) (by omega)
 have hdc : dcode (evs W) (evs N) = 0 := by unfold dcode; simp [hf,hg]
 have hdv : dlv (evs W) (evs N) = btw (evs W) (evs N) := by unfold dlv; rw [if_pos hdc]
 rw [hdc,hdv] at HD
 have HPD : Hid (∀ Z (d : DlE) (X : Thing),d.v = btw (evs W) (evs N) → Own w0 Z (penC p b :: WrT b L :: X :: (d.things ++ l)) → Calls Tryz.prog 132 #[.pointer (some ⟨p,0,none⟩),.slice aw nw cw,.agg #[.slice d.ga d.G.length d.gc,.slice d.ma d.M.length d.mc,.slice d.ha d.H.length d.hc]] Z fun e w' => e = .returned (.tuple #[]) ∧ Own w0 w' (penC p b :: WrT b (L ++ dltB (evs W) (btw (evs W) (evs N))) :: X :: (d.things ++ l))) := fun Z d X hd hZ => by
  have hds := dsz_of hf hg hd
  have h1 := pdelta w0 Z ht (X :: (d.things ++ l)) p b L aw nw cw W d hZ (fun w' hw => (hQ w' hw.tail.dropA).1) (fun w' hw j i hi => by
   obtain ⟨g,o,hga,hc⟩ := hw.tail.dlAt.g.at hi
   exact ⟨g,o,hga,hc⟩) (fun w' hw => hw.tail.dlAt.m) (fun w' hw j x hx => by
   obtain ⟨g,o,hga,hc,hn,hs⟩ := hw.tail.dlAt.h.at hx
   exact ⟨g,o,hga,hc,hn,hs⟩) hW (by omega) (Snap.of hf).up (dtOk_of hf hg hIW hIN hd) (by omega)
  rw [hd] at h1
  exact h1
 clear h hQ hW hN hcw hcn hmw hmn hIW hIN hzW hzN hf hg hdc hdv hl ht
 go_enter Tryz.func86,Tryz.ntmps86
 go_wp2_with fail
 refine HD.out.mono ?_
 rintro e w1 ⟨d,rfl,hd,h1⟩
 unfold DlE.vs
 have h2 := (h1.perm (List.perm_append_comm_assoc d.things [penC p b,WrT b L] l)).allocC #[.slice d.ga d.G.length d.gc,.slice d.ma d.M.length d.mc,.slice d.ha d.H.length d.hc] 106
 have q0 := h2.cell 0
 have q1 := h2.cell 1
 have q2 := h2.cell 2
 simp at q0 q1 q2
 have HP : Hid (Calls _ _ _ _ _) := HPD.out _ d _ hd h2.two.in23
 have z0 : ((0 : Int) != 0) = false := rfl
 clear h1 h2 hd HD HPD
 go_wp2_with fail
 refine HP.out.mono ?_
 rintro e w2 ⟨rfl,h3⟩
 have h4 := h3.three.tail
 have H3 : Hid (Own w0 w2 (penC p b :: WrT b (L ++ dltB (evs W) (btw (evs W) (evs N))) :: l)) := by
  have h5 := h4.perm ((List.perm_append_comm_assoc [penC p b,WrT b (L ++ dltB (evs W) (btw (evs W) (evs N)))] d.things l))
  exact h5.dropA
 clear h3 h4 HP q0 q1 q2
 go_wp2
 go_ret
 exact ⟨rfl,H3.out⟩
theorem bits_cut {n v w : Nat} {r s : List Bool} (hv : v < 2 ^ n) (hw : w < 2 ^ n) (h : bitsN n v ++ r = bitsN n w ++ s) : v = w ∧ r = s := by
 have h1 := List.append_inj h (by rw [length_bitsN,length_bitsN])
 refine ⟨?_,h1.2⟩
 have h2 := congrArg num h1.1
 rw [num_bitsN,num_bitsN,Nat.mod_eq_of_lt hv,Nat.mod_eq_of_lt hw] at h2
 exact h2
theorem varTo_groups (v w n m : Nat) : ∀ k,varTo v n k = varTo w m k → ∀ i,i < k → grpAt v n i = grpAt w m i := by
 intro k
 induction k with
 | zero => intro _ i hi; omega
 | succ k ih =>
  intro h i hi
  rw [varTo,varTo] at h
  have h1 := List.append_inj h (by rw [length_varTo,length_varTo])
  rcases Nat.lt_or_ge i k with hk | hk
  ·exact ih h1.1 i hk
  ·have : i = k := by omega
   subst this
   have h2 : bitsN 5 (grpAt v n i) ++ [] = bitsN 5 (grpAt w m i) ++ [] := by rw [h1.2]
   exact (bits_cut (Nat.lt_of_lt_of_le (grpAt_lt v n i) (by decide)) (Nat.lt_of_lt_of_le (grpAt_lt w m i) (by decide)) h2).1
theorem varTo_split (w m n j : Nat) : ∃ t,varTo w m (n + j) = varTo w m n ++ t ∧ (j = 0 → t = []) := by
 induction j with
 | zero => exact ⟨[],by simp,fun _ => rfl⟩
 | succ j ih =>
  obtain ⟨t,ht,_⟩ := ih
  exact ⟨t ++ bitsN 5 (grpAt w m (n + j)),by rw [← Nat.add_assoc,varTo,ht,List.append_assoc],fun h => by omega⟩
theorem dig_eq : ∀ (n v w : Nat),v < 2 ^ (4 * n) → w < 2 ^ (4 * n) → (∀ i,i < n → v / 2 ^ (4 * i) % 16 = w / 2 ^ (4 * i) % 16) → v = w := by
 intro n
 induction n with
 | zero => intro v w hv hw _; simp at hv hw; omega
 | succ n ih =>
  intro v w hv hw h
  have h0 := h 0 (by omega)
  simp at h0
  have e : 2 ^ (4 * (n + 1)) = 16 * 2 ^ (4 * n) := by rw [Nat.mul_add,Nat.pow_add]; omega
  rw [e] at hv hw
  have h1 := ih (v / 16) (w / 16) (Nat.div_lt_of_lt_mul hv) (Nat.div_lt_of_lt_mul hw) (fun i hi => by
   have h2 := h (i + 1) (by omega)
   have e2 : 2 ^ (4 * (i + 1)) = 16 * 2 ^ (4 * i) := by rw [Nat.mul_add,Nat.pow_add]; omega
   rw [e2] at h2
   rw [Nat.div_div_eq_div_mul,Nat.div_div_eq_div_mul]
   exact h2)
  omega
theorem lt_grpP (v : Nat) (h : v < 18446744073709551616) : v < 2 ^ (4 * grp v) := by
 refine Nat.lt_of_lt_of_le (lt_bitLen v h) (Nat.pow_le_pow_right (by decide) ?_)
 unfold grp
 omega
theorem var_cut_le {v w : Nat} {r s : List Bool} (hv : v < 18446744073709551616) (hw : w < 18446744073709551616) (hle : grp v ≤ grp w) (h : var v ++ r = var w ++ s) : v = w ∧ r = s := by
 obtain ⟨j,hj⟩ : ∃ j,grp w = grp v + j := ⟨grp w - grp v,by omega⟩
 obtain ⟨t,ht,ht0⟩ := varTo_split w (grp w) (grp v) j
 have hb := grp_bd v hv
 unfold var at h
 have e : varTo w (grp w) (grp w) = varTo w (grp w) (grp v) ++ t := by rw [← ht,← hj]
 rw [e,List.append_assoc] at h
 have h1 := List.append_inj h (by rw [length_varTo,length_varTo])
 have h2 := varTo_groups v w (grp v) (grp w) (grp v) h1.1
 have h3 := h2 (grp v - 1) (by omega)
 unfold grpAt at h3
 rw [if_neg (by omega)] at h3
 have hj0 : j = 0 := by
  rcases Nat.eq_zero_or_pos j with h0 | h0
  ·exact h0
  ·rw [if_pos (by omega)] at h3; omega
 have hg : grp w = grp v := by omega
 have hr : r = s := by rw [h1.2,ht0 hj0]; rfl
 refine ⟨?_,hr⟩
 refine dig_eq (grp v) v w (lt_grpP v hv) (by rw [← hg]; exact lt_grpP w hw) (fun i hi => ?_)
 have h4 := h2 i hi
 unfold grpAt at h4
 rw [hg] at h4
 omega
theorem var_cut {v w : Nat} {r s : List Bool} (hv : v < 18446744073709551616) (hw : w < 18446744073709551616) (h : var v ++ r = var w ++ s) : v = w ∧ r = s := by
 rcases Nat.le_total (grp v) (grp w) with hle | hle
 ·exact var_cut_le hv hw hle h
 ·obtain ⟨h1,h2⟩ := var_cut_le hw hv hle h.symm
  exact ⟨h1.symm,h2.symm⟩
theorem idB_cut {a i j : Nat} {r s : List Bool} (hi : a < i ∧ i < 4294967296) (hj : a < j ∧ j < 4294967296) (h : idB a i ++ r = idB a j ++ s) : i = j ∧ r = s := by
 unfold idB at h
 obtain ⟨h1,h2⟩ := var_cut (by omega) (by omega) h
 exact ⟨by omega,h2⟩
theorem val_inj : ∀ (a b c d e f a' b' c' d' e' f' : Bool),val a b c d e f = val a' b' c' d' e' f' → a = a' ∧ b = b' ∧ c = c' ∧ d = d' ∧ e = e' ∧ f = f' := by
 intro a b c d e f a' b' c' d' e' f' h
 unfold val at h
 cases a <;> cases a' <;> cases b <;> cases b' <;> simp at h ⊢ <;> first | omega | (cases c <;> cases c' <;> cases d <;> cases d' <;> simp at h ⊢ <;> first | omega | (cases e <;> cases e' <;> cases f <;> cases f' <;> simp at h ⊢))
theorem msk_has {C D : List Cp} (h : msk C = msk D) : ∀ k,k < 6 → hasK C k = hasK D k := by
 rw [msk_val,msk_val] at h
 obtain ⟨h0,h1,h2,h3,h4,h5⟩ := val_inj _ _ _ _ _ _ _ _ _ _ _ _ h
 intro k hk
 match k,hk with
 | 0,_ => exact h0
 | 1,_ => exact h1
 | 2,_ => exact h2
 | 3,_ => exact h3
 | 4,_ => exact h4
 | 5,_ => exact h5
theorem kinds_eq {C D : List Cp} (hC : Good C) (hD : Good D) (h : msk C = msk D) : C.map (·.k) = D.map (·.k) := by
 have hm := msk_has h
 have key : ∀ {A B : List Cp},Good A → (∀ k,k < 6 → hasK A k = hasK B k) → ∀ x,x ∈ A.map (·.k) → x ∈ B.map (·.k) := fun hA hk x hx => by
  obtain ⟨q,hq,rfl⟩ := List.mem_map.1 hx
  have h1 := mem_hasK hq
  rw [hk q.k (hA.2 q hq)] at h1
  obtain ⟨y,hy⟩ := hasK_fst h1
  have h2 := fst_some hy
  exact List.mem_map.2 ⟨y,h2.1,h2.2⟩
 exact up_mem (fun x : Nat => x) (List.pairwise_map.2 hC.1) (List.pairwise_map.2 hD.1) (fun x => ⟨key hC hm x,key hD (fun k hk => (hm k hk).symm) x⟩)
theorem cb_fields (k : Nat) (F G : Nat → Int) : ∀ n,cb k F n = cb k G n → ∀ j,j < n → fb k F j = fb k G j := by
 intro n
 induction n with
 | zero => intro _ j hj; omega
 | succ n ih =>
  intro h j hj
  rw [cb,cb] at h
  have h1 := List.append_inj h (by rw [length_cb,length_cb])
  rcases Nat.lt_or_ge j n with hk | hk
  ·exact ih h1.1 j hk
  ·have : j = n := by omega
   subst this
   exact h1.2
theorem fb_eq {k j : Nat} {F G : Nat → Int} (hF : lo k j ≤ F j ∧ F j ≤ hi k j) (hG : lo k j ≤ G j ∧ G j ≤ hi k j) (hj : j < cnt k) (h : fb k F j = fb k G j) : F j = G j := by
 obtain ⟨l0,l1,l2,l3⟩ := rng_ok k j hj
 have a := in_lt (F j) (lo k j) (hi k j) (by omega) (by omega) hF.1 hF.2
 have b := in_lt (G j) (lo k j) (hi k j) (by omega) (by omega) hG.1 hG.2
 unfold fb at h
 have h2 : bitsN (wd k j) (F j - lo k j).toNat ++ [] = bitsN (wd k j) (G j - lo k j).toNat ++ [] := by rw [h]
 have := (bits_cut a b h2).1
 omega
theorem cpB_cut {q q' : Cp} {r s : List Bool} (hk : q.k = q'.k) (hq : chk q.k (f3 q.a q.b q.c) = 0) (hq' : chk q'.k (f3 q'.a q'.b q'.c) = 0) (h : cpB q ++ r = cpB q' ++ s) : q = q' ∧ r = s := by
 obtain ⟨k,a,b,c⟩ := q
 obtain ⟨k',a',b',c'⟩ := q'
 simp only at hk
 subst hk
 unfold cpB at h
 simp only at h hq hq'
 have h1 := List.append_inj h (by rw [length_cb,length_cb])
 obtain ⟨_,f1,f2⟩ := chk_ok _ _ hq
 obtain ⟨_,g1,g2⟩ := chk_ok _ _ hq'
 have key : ∀ j,j < 3 → f3 a b c j = f3 a' b' c' j := fun j hj => by
  by_cases hc : j < cnt k
  ·exact fb_eq (f1 j hc) (g1 j hc) hc (cb_fields k _ _ _ h1.1 j hc)
  ·rw [f2 j (by omega) hj,g2 j (by omega) hj]
 have e0 : a = a' := key 0 (by decide)
 have e1 : b = b' := key 1 (by decide)
 have e2 : c = c' := key 2 (by decide)
 exact ⟨by rw [e0,e1,e2],h1.2⟩
theorem cpsB_cut : ∀ {C D : List Cp} {r s : List Bool},C.map (·.k) = D.map (·.k) → (∀ q ∈ C,chk q.k (f3 q.a q.b q.c) = 0) → (∀ q ∈ D,chk q.k (f3 q.a q.b q.c) = 0) → cpsB C ++ r = cpsB D ++ s → C = D ∧ r = s := by
 intro C
 induction C with
 | nil =>
  intro D r s hk _ _ h
  cases D with
  | nil => exact ⟨rfl,h⟩
  | cons q t => simp at hk
 | cons x t ih =>
  intro D r s hk hC hD h
  cases D with
  | nil => simp at hk
  | cons y u =>
   simp only [List.map_cons,List.cons.injEq] at hk
   simp only [cpsB,List.append_assoc] at h
   obtain ⟨h1,h2⟩ := cpB_cut hk.1 (hC x (by simp)) (hD y (by simp)) h
   obtain ⟨h3,h4⟩ := ih hk.2 (fun q hq => hC q (by simp [hq])) (fun q hq => hD q (by simp [hq])) h2
   exact ⟨by rw [h1,h3],h4⟩
def EnOk (x : En) : Prop := 1024 ≤ x.1 ∧ x.1 < 4294967296 ∧ lst (-1) x.2 = 0 ∧ un x.2 = false
theorem entB_cut {a : Nat} {x y : En} {r s : List Bool} (hx : EnOk x) (hy : EnOk y) (hax : a < x.1) (hay : a < y.1) (h : entB a x ++ r = entB a y ++ s) : x = y ∧ r = s := by
 unfold entB at h
 simp only [List.append_assoc] at h
 obtain ⟨h1,h2⟩ := idB_cut ⟨hax,hx.2.1⟩ ⟨hay,hy.2.1⟩ h
 obtain ⟨h3,h4⟩ := bits_cut (Nat.lt_of_lt_of_le (msk_lt32 hx.2.2.2) (by decide)) (Nat.lt_of_lt_of_le (msk_lt32 hy.2.2.2) (by decide)) h2
 have lx := lst_ok hx.2.2.1
 have ly := lst_ok hy.2.2.1
 obtain ⟨h5,h6⟩ := cpsB_cut (kinds_eq (good_of hx.2.2.1) (good_of hy.2.2.1) h3) (fun q hq => (lx.2 q hq).2) (fun q hq => (ly.2 q hq).2) h4
 exact ⟨Prod.ext h1 h5,h6⟩
theorem entsB_cut : ∀ {X Y : List En} {a : Nat} {r s : List Bool},X.length = Y.length → X.Pairwise (fun a b => a.1 < b.1) → Y.Pairwise (fun a b => a.1 < b.1) → (∀ x ∈ X,EnOk x ∧ a < x.1) → (∀ x ∈ Y,EnOk x ∧ a < x.1) → entsB a X ++ r = entsB a Y ++ s → X = Y ∧ r = s := by
 intro X
 induction X with
 | nil =>
  intro Y a r s hl _ _ _ _ h
  cases Y with
  | nil => exact ⟨rfl,h⟩
  | cons y t => simp at hl
 | cons x t ih =>
  intro Y a r s hl hX hY oX oY h
  cases Y with
  | nil => simp at hl
  | cons y u =>
   simp only [entsB,List.append_assoc] at h
   have x1 := oX x (by simp)
   have y1 := oY y (by simp)
   obtain ⟨h1,h2⟩ := entB_cut x1.1 y1.1 x1.2 y1.2 h
   subst h1
   have pX := List.pairwise_cons.1 hX
   have pY := List.pairwise_cons.1 hY
   obtain ⟨h3,h4⟩ := ih (by simpa using hl) pX.2 pY.2 (fun z hz => ⟨(oX z (by simp [hz])).1,pX.1 z hz⟩) (fun z hz => ⟨(oY z (by simp [hz])).1,pY.1 z hz⟩) h2
   exact ⟨by rw [h3],h4⟩
end Go.Proofs.YtgifeckbflkkpaaGreatDoor
