/- Bits that can be parted: numbers of a width, and Var. -/
import Derived.Test.YtgifeckbflkkpaaGreatDoorQf33
namespace Go.Proofs.YtgifeckbflkkpaaGreatDoor
open Go.RowKit
set_option linter.unusedVariables false
set_option maxRecDepth 100000
theorem bits_cut {n v w : Nat} {r s : List Bool} (hv : v < 2 ^ n) (hw : w < 2 ^ n) (h : bitsN n v ++ r = bitsN n w ++ s) : v = w ∧ r = s := by
 have h1 := List.append_inj h (by rw [length_bitsN,length_bitsN])
 refine ⟨?_,h1.2⟩
 have h2 := congrArg num h1.1
 rw [num_bitsN,num_bitsN,Nat.mod_eq_of_lt hv,Nat.mod_eq_of_lt hw] at h2
 exact h2
theorem varTo_groups (v w n m : Nat) : ∀ k,varTo v n k = varTo w m k → ∀ i,i < k → grpAt v n i = grpAt w m i := by
 intro k
 induction k with
 | zero => intro _ i hi; omega
 | succ k ih =>
  intro h i hi
  rw [varTo,varTo] at h
  have h1 := List.append_inj h (by rw [length_varTo,length_varTo])
  rcases Nat.lt_or_ge i k with hk | hk
  ·exact ih h1.1 i hk
  ·have : i = k := by omega
   subst this
   have h2 : bitsN 5 (grpAt v n i) ++ [] = bitsN 5 (grpAt w m i) ++ [] := by rw [h1.2]
   exact (bits_cut (Nat.lt_of_lt_of_le (grpAt_lt v n i) (by decide)) (Nat.lt_of_lt_of_le (grpAt_lt w m i) (by decide)) h2).1
theorem varTo_split (w m n j : Nat) : ∃ t,varTo w m (n + j) = varTo w m n ++ t ∧ (j = 0 → t = []) := by
 induction j with
 | zero => exact ⟨[],by simp,fun _ => rfl⟩
 | succ j ih =>
  obtain ⟨t,ht,_⟩ := ih
  exact ⟨t ++ bitsN 5 (grpAt w m (n + j)),by rw [← Nat.add_assoc,varTo,ht,List.append_assoc],fun h => by omega⟩
theorem dig_eq : ∀ (n v w : Nat),v < 2 ^ (4 * n) → w < 2 ^ (4 * n) → (∀ i,i < n → v / 2 ^ (4 * i) % 16 = w / 2 ^ (4 * i) % 16) → v = w := by
 intro n
 induction n with
 | zero => intro v w hv hw _; simp at hv hw; omega
 | succ n ih =>
  intro v w hv hw h
  have h0 := h 0 (by omega)
  simp at h0
  have e : 2 ^ (4 * (n + 1)) = 16 * 2 ^ (4 * n) := by rw [Nat.mul_add,Nat.pow_add]; omega
  rw [e] at hv hw
  have h1 := ih (v / 16) (w / 16) (Nat.div_lt_of_lt_mul hv) (Nat.div_lt_of_lt_mul hw) (fun i hi => by
   have h2 := h (i + 1) (by omega)
   have e2 : 2 ^ (4 * (i + 1)) = 16 * 2 ^ (4 * i) := by rw [Nat.mul_add,Nat.pow_add]; omega
   rw [e2] at h2
   rw [Nat.div_div_eq_div_mul,Nat.div_div_eq_div_mul]
   exact h2)
  omega
theorem lt_grpP (v : Nat) (h : v < 18446744073709551616) : v < 2 ^ (4 * grp v) := by
 refine Nat.lt_of_lt_of_le (lt_bitLen v h) (Nat.pow_le_pow_right (by decide) ?_)
 unfold grp
 omega
theorem var_cut_le {v w : Nat} {r s : List Bool} (hv : v < 18446744073709551616) (hw : w < 18446744073709551616) (hle : grp v ≤ grp w) (h : var v ++ r = var w ++ s) : v = w ∧ r = s := by
 obtain ⟨j,hj⟩ : ∃ j,grp w = grp v + j := ⟨grp w - grp v,by omega⟩
 obtain ⟨t,ht,ht0⟩ := varTo_split w (grp w) (grp v) j
 have hb := grp_bd v hv
 unfold var at h
 have e : varTo w (grp w) (grp w) = varTo w (grp w) (grp v) ++ t := by rw [← ht,← hj]
 rw [e,List.append_assoc] at h
 have h1 := List.append_inj h (by rw [length_varTo,length_varTo])
 have h2 := varTo_groups v w (grp v) (grp w) (grp v) h1.1
 have h3 := h2 (grp v - 1) (by omega)
 unfold grpAt at h3
 rw [if_neg (by omega)] at h3
 have hj0 : j = 0 := by
  rcases Nat.eq_zero_or_pos j with h0 | h0
  ·exact h0
  ·rw [if_pos (by omega)] at h3; omega
 have hg : grp w = grp v := by omega
 have hr : r = s := by rw [h1.2,ht0 hj0]; rfl
 refine ⟨?_,hr⟩
 refine dig_eq (grp v) v w (lt_grpP v hv) (by rw [← hg]; exact lt_grpP w hw) (fun i hi => ?_)
 have h4 := h2 i hi
 unfold grpAt at h4
 rw [hg] at h4
 omega
theorem var_cut {v w : Nat} {r s : List Bool} (hv : v < 18446744073709551616) (hw : w < 18446744073709551616) (h : var v ++ r = var w ++ s) : v = w ∧ r = s := by
 rcases Nat.le_total (grp v) (grp w) with hle | hle
 ·exact var_cut_le hv hw hle h
 ·obtain ⟨h1,h2⟩ := var_cut_le hw hv hle h.symm
  exact ⟨h1.symm,h2.symm⟩
theorem idB_cut {a i j : Nat} {r s : List Bool} (hi : a < i ∧ i < 4294967296) (hj : a < j ∧ j < 4294967296) (h : idB a i ++ r = idB a j ++ s) : i = j ∧ r = s := by
 unfold idB at h
 obtain ⟨h1,h2⟩ := var_cut (by omega) (by omega) h
 exact ⟨by omega,h2⟩
theorem val_inj : ∀ (a b c d e f a' b' c' d' e' f' : Bool),val a b c d e f = val a' b' c' d' e' f' → a = a' ∧ b = b' ∧ c = c' ∧ d = d' ∧ e = e' ∧ f = f' := by
 intro a b c d e f a' b' c' d' e' f' h
 unfold val at h
 cases a <;> cases a' <;> cases b <;> cases b' <;> simp at h ⊢ <;> first | omega | (cases c <;> cases c' <;> cases d <;> cases d' <;> simp at h ⊢ <;> first | omega | (cases e <;> cases e' <;> cases f <;> cases f' <;> simp at h ⊢))
theorem msk_has {C D : List Cp} (h : msk C = msk D) : ∀ k,k < 6 → hasK C k = hasK D k := by
 rw [msk_val,msk_val] at h
 obtain ⟨h0,h1,h2,h3,h4,h5⟩ := val_inj _ _ _ _ _ _ _ _ _ _ _ _ h
 intro k hk
 match k,hk with
 | 0,_ => exact h0
 | 1,_ => exact h1
 | 2,_ => exact h2
 | 3,_ => exact h3
 | 4,_ => exact h4
 | 5,_ => exact h5
theorem kinds_eq {C D : List Cp} (hC : Good C) (hD : Good D) (h : msk C = msk D) : C.map (·.k) = D.map (·.k) := by
 have hm := msk_has h
 have key : ∀ {A B : List Cp},Good A → (∀ k,k < 6 → hasK A k = hasK B k) → ∀ x,x ∈ A.map (·.k) → x ∈ B.map (·.k) := fun hA hk x hx => by
  obtain ⟨q,hq,rfl⟩ := List.mem_map.1 hx
  have h1 := mem_hasK hq
  rw [hk q.k (hA.2 q hq)] at h1
  obtain ⟨y,hy⟩ := hasK_fst h1
  have h2 := fst_some hy
  exact List.mem_map.2 ⟨y,h2.1,h2.2⟩
 exact up_mem (fun x : Nat => x) (List.pairwise_map.2 hC.1) (List.pairwise_map.2 hD.1) (fun x => ⟨key hC hm x,key hD (fun k hk => (hm k hk).symm) x⟩)
theorem cb_fields (k : Nat) (F G : Nat → Int) : ∀ n,cb k F n = cb k G n → ∀ j,j < n → fb k F j = fb k G j := by
 intro n
 induction n with
 | zero => intro _ j hj; omega
 | succ n ih =>
  intro h j hj
  rw [cb,cb] at h
  have h1 := List.append_inj h (by rw [length_cb,length_cb])
  rcases Nat.lt_or_ge j n with hk | hk
  ·exact ih h1.1 j hk
  ·have : j = n := by omega
   subst this
   exact h1.2
theorem fb_eq {k j : Nat} {F G : Nat → Int} (hF : lo k j ≤ F j ∧ F j ≤ hi k j) (hG : lo k j ≤ G j ∧ G j ≤ hi k j) (hj : j < cnt k) (h : fb k F j = fb k G j) : F j = G j := by
 obtain ⟨l0,l1,l2,l3⟩ := rng_ok k j hj
 have a := in_lt (F j) (lo k j) (hi k j) (by omega) (by omega) hF.1 hF.2
 have b := in_lt (G j) (lo k j) (hi k j) (by omega) (by omega) hG.1 hG.2
 unfold fb at h
 have h2 : bitsN (wd k j) (F j - lo k j).toNat ++ [] = bitsN (wd k j) (G j - lo k j).toNat ++ [] := by rw [h]
 have := (bits_cut a b h2).1
 omega
theorem cpB_cut {q q' : Cp} {r s : List Bool} (hk : q.k = q'.k) (hq : chk q.k (f3 q.a q.b q.c) = 0) (hq' : chk q'.k (f3 q'.a q'.b q'.c) = 0) (h : cpB q ++ r = cpB q' ++ s) : q = q' ∧ r = s := by
 obtain ⟨k,a,b,c⟩ := q
 obtain ⟨k',a',b',c'⟩ := q'
 simp only at hk
 subst hk
 unfold cpB at h
 simp only at h hq hq'
 have h1 := List.append_inj h (by rw [length_cb,length_cb])
 obtain ⟨_,f1,f2⟩ := chk_ok _ _ hq
 obtain ⟨_,g1,g2⟩ := chk_ok _ _ hq'
 have key : ∀ j,j < 3 → f3 a b c j = f3 a' b' c' j := fun j hj => by
  by_cases hc : j < cnt k
  ·exact fb_eq (f1 j hc) (g1 j hc) hc (cb_fields k _ _ _ h1.1 j hc)
  ·rw [f2 j (by omega) hj,g2 j (by omega) hj]
 have e0 : a = a' := key 0 (by decide)
 have e1 : b = b' := key 1 (by decide)
 have e2 : c = c' := key 2 (by decide)
 exact ⟨by rw [e0,e1,e2],h1.2⟩
theorem cpsB_cut : ∀ {C D : List Cp} {r s : List Bool},C.map (·.k) = D.map (·.k) → (∀ q ∈ C,chk q.k (f3 q.a q.b q.c) = 0) → (∀ q ∈ D,chk q.k (f3 q.a q.b q.c) = 0) → cpsB C ++ r = cpsB D ++ s → C = D ∧ r = s := by
 intro C
 induction C with
 | nil =>
  intro D r s hk _ _ h
  cases D with
  | nil => exact ⟨rfl,h⟩
  | cons q t => simp at hk
 | cons x t ih =>
  intro D r s hk hC hD h
  cases D with
  | nil => simp at hk
  | cons y u =>
   simp only [List.map_cons,List.cons.injEq] at hk
   simp only [cpsB,List.append_assoc] at h
   obtain ⟨h1,h2⟩ := cpB_cut hk.1 (hC x (by simp)) (hD y (by simp)) h
   obtain ⟨h3,h4⟩ := ih hk.2 (fun q hq => hC q (by simp [hq])) (fun q hq => hD q (by simp [hq])) h2
   exact ⟨by rw [h1,h3],h4⟩
def EnOk (x : En) : Prop := 1024 ≤ x.1 ∧ x.1 < 4294967296 ∧ lst (-1) x.2 = 0 ∧ un x.2 = false
theorem entB_cut {a : Nat} {x y : En} {r s : List Bool} (hx : EnOk x) (hy : EnOk y) (hax : a < x.1) (hay : a < y.1) (h : entB a x ++ r = entB a y ++ s) : x = y ∧ r = s := by
 unfold entB at h
 simp only [List.append_assoc] at h
 obtain ⟨h1,h2⟩ := idB_cut ⟨hax,hx.2.1⟩ ⟨hay,hy.2.1⟩ h
 obtain ⟨h3,h4⟩ := bits_cut (Nat.lt_of_lt_of_le (msk_lt32 hx.2.2.2) (by decide)) (Nat.lt_of_lt_of_le (msk_lt32 hy.2.2.2) (by decide)) h2
 have lx := lst_ok hx.2.2.1
 have ly := lst_ok hy.2.2.1
 obtain ⟨h5,h6⟩ := cpsB_cut (kinds_eq (good_of hx.2.2.1) (good_of hy.2.2.1) h3) (fun q hq => (lx.2 q hq).2) (fun q hq => (ly.2 q hq).2) h4
 exact ⟨Prod.ext h1 h5,h6⟩
theorem entsB_cut : ∀ {X Y : List En} {a : Nat} {r s : List Bool},X.length = Y.length → X.Pairwise (fun a b => a.1 < b.1) → Y.Pairwise (fun a b => a.1 < b.1) → (∀ x ∈ X,EnOk x ∧ a < x.1) → (∀ x ∈ Y,EnOk x ∧ a < x.1) → entsB a X ++ r = entsB a Y ++ s → X = Y ∧ r = s := by
 intro X
 induction X with
 | nil =>
  intro Y a r s hl _ _ _ _ h
  cases Y with
  | nil => exact ⟨rfl,h⟩
  | cons y t => simp at hl
 | cons x t ih =>
  intro Y a r s hl hX hY oX oY h
  cases Y with
  | nil => simp at hl
  | cons y u =>
   simp only [entsB,List.append_assoc] at h
   have x1 := oX x (by simp)
   have y1 := oY y (by simp)
   obtain ⟨h1,h2⟩ := entB_cut x1.1 y1.1 x1.2 y1.2 h
   subst h1
   have pX := List.pairwise_cons.1 hX
   have pY := List.pairwise_cons.1 hY
   obtain ⟨h3,h4⟩ := ih (by simpa using hl) pX.2 pY.2 (fun z hz => ⟨(oX z (by simp [hz])).1,pX.1 z hz⟩) (fun z hz => ⟨(oY z (by simp [hz])).1,pY.1 z hz⟩) h2
   exact ⟨by rw [h3],h4⟩
theorem mz_inj {F G G' : Nat → Int} {j : Nat} (h : mz F G j = mz F G' j) : G j = G' j := by
 unfold mz zig at h
 split at h <;> split at h <;> omega
theorem sb_cut {k j : Nat} {F G G' : Nat → Int} {r s : List Bool} (hj : j < cnt k) (hG : lo k j ≤ G j ∧ G j ≤ hi k j) (hG' : lo k j ≤ G' j ∧ G' j ≤ hi k j) (h : sb k F G j ++ r = sb k F G' j ++ s) : G j = G' j ∧ r = s := by
 have b1 : bitsN 1 0 = [false] := rfl
 have b2 : bitsN 2 3 = [true,true] := rfl
 have b3 : bitsN 2 1 = [true,false] := rfl
 unfold sb at h
 by_cases z1 : mz F G j = 0
 ·rw [if_pos z1] at h
  by_cases z2 : mz F G' j = 0
  ·rw [if_pos z2,b1] at h
   exact ⟨mz_inj (by rw [z1,z2]),by simpa using h⟩
  ·rw [if_neg z2] at h
   split at h
   ·rw [b1,b2] at h; simp at h
   ·rw [b1,b3] at h; simp at h
 ·rw [if_neg z1] at h
  by_cases n1 : mz F G j ≤ 16
  ·rw [if_pos n1] at h
   by_cases z2 : mz F G' j = 0
   ·rw [if_pos z2,b1,b2] at h; simp at h
   ·rw [if_neg z2] at h
    by_cases n2 : mz F G' j ≤ 16
    ·rw [if_pos n2,b2] at h
     simp only [List.cons_append,List.nil_append,List.cons.injEq,true_and] at h
     obtain ⟨h1,h2⟩ := bits_cut (n := 4) (by show _ < 16; omega) (by show _ < 16; omega) h
     exact ⟨mz_inj (F := F) (by omega),h2⟩
    ·rw [if_neg n2,b2,b3] at h; simp at h
  ·rw [if_neg n1] at h
   by_cases z2 : mz F G' j = 0
   ·rw [if_pos z2,b1,b3] at h; simp at h
   ·rw [if_neg z2] at h
    by_cases n2 : mz F G' j ≤ 16
    ·rw [if_pos n2,b2,b3] at h; simp at h
    ·rw [if_neg n2,b3] at h
     simp only [List.cons_append,List.nil_append,List.cons.injEq,true_and] at h
     have h1 := List.append_inj h (by rw [length_fb,length_fb])
     exact ⟨fb_eq hG hG' hj h1.1,h1.2⟩
theorem sbs_cut {k : Nat} {F G G' : Nat → Int} (hG : ∀ j,j < cnt k → lo k j ≤ G j ∧ G j ≤ hi k j) (hG' : ∀ j,j < cnt k → lo k j ≤ G' j ∧ G' j ≤ hi k j) : ∀ (n : Nat) {r s : List Bool},n ≤ cnt k → sbs k F G n ++ r = sbs k F G' n ++ s → (∀ j,j < n → G j = G' j) ∧ r = s := by
 intro n
 induction n with
 | zero => intro r s _ h; exact ⟨fun j hj => by omega,by simpa [sbs] using h⟩
 | succ n ih =>
  intro r s hn h
  rw [sbs,sbs,List.append_assoc,List.append_assoc] at h
  obtain ⟨h1,h2⟩ := ih (by omega) h
  obtain ⟨h3,h4⟩ := sb_cut (by omega) (hG n (by omega)) (hG' n (by omega)) h2
  refine ⟨fun j hj => ?_,h4⟩
  rcases Nat.lt_or_ge j n with hk | hk
  ·exact h1 j hk
  ·have : j = n := by omega
   subst this
   exact h3
def StOk (A : List Cp) (q : Cp) : Prop := (∃ y,fst A q.k = some y) ∧ chk q.k (f3 q.a q.b q.c) = 0
theorem stpB_cut {A : List Cp} {q q' : Cp} {r s : List Bool} (hk : q.k = q'.k) (hq : StOk A q) (hq' : StOk A q') (h : stpB A q ++ r = stpB A q' ++ s) : q = q' ∧ r = s := by
 obtain ⟨k,a,b,c⟩ := q
 obtain ⟨k',a',b',c'⟩ := q'
 simp only at hk
 subst hk
 obtain ⟨⟨y,hy⟩,hc⟩ := hq
 obtain ⟨_,hc'⟩ := hq'
 unfold stpB at h
 simp only at h hy hc hc'
 rw [hy] at h
 simp only at h
 obtain ⟨_,f1,f2⟩ := chk_ok _ _ hc
 obtain ⟨_,g1,g2⟩ := chk_ok _ _ hc'
 obtain ⟨h1,h2⟩ := sbs_cut f1 g1 _ (Nat.le_refl _) h
 have key : ∀ j,j < 3 → f3 a b c j = f3 a' b' c' j := fun j hj => by
  by_cases hcn : j < cnt k
  ·exact h1 j hcn
  ·rw [f2 j (by omega) hj,g2 j (by omega) hj]
 have e0 : a = a' := key 0 (by decide)
 have e1 : b = b' := key 1 (by decide)
 have e2 : c = c' := key 2 (by decide)
 exact ⟨by rw [e0,e1,e2],h2⟩
theorem stpsB_cut {A : List Cp} : ∀ {C D : List Cp} {r s : List Bool},C.map (·.k) = D.map (·.k) → (∀ q ∈ C,StOk A q) → (∀ q ∈ D,StOk A q) → stpsB A C ++ r = stpsB A D ++ s → C = D ∧ r = s := by
 intro C
 induction C with
 | nil =>
  intro D r s hk _ _ h
  cases D with
  | nil => exact ⟨rfl,h⟩
  | cons q t => simp at hk
 | cons x t ih =>
  intro D r s hk hC hD h
  cases D with
  | nil => simp at hk
  | cons y u =>
   simp only [List.map_cons,List.cons.injEq] at hk
   simp only [stpsB,List.append_assoc] at h
   obtain ⟨h1,h2⟩ := stpB_cut hk.1 (hC x (by simp)) (hD y (by simp)) h
   obtain ⟨h3,h4⟩ := ih hk.2 (fun q hq => hC q (by simp [hq])) (fun q hq => hD q (by simp [hq])) h2
   exact ⟨by rw [h1,h3],h4⟩
structure ChGo (W : List En) (c : Chg) : Prop where
 ok : ChOk W c
 gn : Good c.new
 gs : Good c.set
theorem chgB_cut {W : List En} {a : Nat} {c c' : Chg} {r s : List Bool} (hc : ChGo W c) (hc' : ChGo W c') (ha : a < c.id) (ha' : a < c'.id) (h : chgB W a c ++ r = chgB W a c' ++ s) : c = c' ∧ r = s := by
 unfold chgB at h
 simp only [List.append_assoc] at h
 obtain ⟨h1,h2⟩ := idB_cut ⟨ha,hc.ok.id32⟩ ⟨ha',hc'.ok.id32⟩ h
 obtain ⟨h3,h4⟩ := bits_cut (Nat.lt_of_lt_of_le hc.ok.lost (by decide)) (Nat.lt_of_lt_of_le hc'.ok.lost (by decide)) h2
 obtain ⟨h5,h6⟩ := bits_cut (Nat.lt_of_lt_of_le hc.ok.mn (by decide)) (Nat.lt_of_lt_of_le hc'.ok.mn (by decide)) h4
 obtain ⟨h7,h8⟩ := bits_cut (Nat.lt_of_lt_of_le hc.ok.ms (by decide)) (Nat.lt_of_lt_of_le hc'.ok.ms (by decide)) h6
 obtain ⟨h9,h10⟩ := cpsB_cut (kinds_eq hc.gn hc'.gn h5) (fun q hq => (hc.ok.kn q hq).2) (fun q hq => (hc'.ok.kn q hq).2) h8
 rw [h1] at h10
 obtain ⟨h11,h12⟩ := stpsB_cut (kinds_eq hc.gs hc'.gs h7) (fun q hq => by
  obtain ⟨y,hy,_,hq2⟩ := hc.ok.st q hq
  rw [h1] at hy
  exact ⟨⟨y,hy⟩,hq2⟩) (fun q hq => by
  obtain ⟨y,hy,_,hq2⟩ := hc'.ok.st q hq
  exact ⟨⟨y,hy⟩,hq2⟩) h10
 obtain ⟨i,lo',nw,st⟩ := c
 obtain ⟨i',lo'',nw',st'⟩ := c'
 simp only at h1 h3 h9 h11
 exact ⟨by rw [h1,h3,h9,h11],h12⟩
theorem headB_cut {k c e t s k' c' e' t' s' : Nat} {r q : List Bool} (h : Right k c e t s) (h' : Right k' c' e' t' s') (hb : headB k c e t s ++ r = headB k' c' e' t' s' ++ q) : (k = k' ∧ c = c' ∧ e = e' ∧ t = t' ∧ s = s') ∧ r = q := by
 unfold headB at hb
 rw [wid15,wid015] at hb
 simp only [List.append_assoc] at hb
 have a1 := h.k1
 have a2 := h.k5
 have a3 := h'.k1
 have a4 := h'.k5
 have a5 := h.c15
 have a6 := h'.c15
 obtain ⟨h1,h2⟩ := bits_cut (n := 3) (by show _ < 8; omega) (by show _ < 8; omega) hb
 have hk : k = k' := by omega
 subst hk
 obtain ⟨h3,h4⟩ := bits_cut (n := 4) (by show _ < 16; omega) (by show _ < 16; omega) h2
 obtain ⟨h5,h6⟩ := var_cut (by have := h.e32; omega) (by have := h'.e32; omega) h4
 by_cases hT : hasT k = true
 ·rw [if_pos hT,if_pos hT] at h6
  obtain ⟨h7,h8⟩ := bits_cut (n := 32) (by have := h.t32; show _ < 4294967296; omega) (by have := h'.t32; show _ < 4294967296; omega) h6
  by_cases h22 : k = 2
  ·rw [if_pos h22,if_pos h22] at h8
   have b1 := h.bf
   have b2 := h'.bf
   unfold bfit at b1 b2
   rw [if_pos h22] at b1 b2
   simp at b1 b2
   obtain ⟨h9,h10⟩ := var_cut (by have := h.t32; omega) (by have := h'.t32; omega) h8
   exact ⟨⟨rfl,h3,h5,h7,by omega⟩,h10⟩
  ·rw [if_neg h22,if_neg h22] at h8
   have b1 := h.bf
   have b2 := h'.bf
   unfold bfit at b1 b2
   rw [if_neg h22] at b1 b2
   simp at b1 b2
   exact ⟨⟨rfl,h3,h5,h7,by omega⟩,by simpa using h8⟩
 ·have h22 : k ≠ 2 := by rintro rfl; exact hT rfl
  rw [if_neg hT,if_neg hT,if_neg h22,if_neg h22] at h6
  have t1 := h.tf
  have t2 := h'.tf
  unfold tfit at t1 t2
  simp [hT] at t1 t2
  have b1 := h.bf
  have b2 := h'.bf
  unfold bfit at b1 b2
  rw [if_neg h22] at b1 b2
  simp at b1 b2
  exact ⟨⟨rfl,h3,h5,by omega,by omega⟩,by simpa using h6⟩
end Go.Proofs.YtgifeckbflkkpaaGreatDoor
