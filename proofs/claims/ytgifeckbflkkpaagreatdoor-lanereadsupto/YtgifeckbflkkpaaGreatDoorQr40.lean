/- Bits that can be parted: numbers of a width, and Var. -/
import Derived.Test.YtgifeckbflkkpaaGreatDoorQr39
namespace Go.Proofs.YtgifeckbflkkpaaGreatDoor
open Go.RowKit
set_option linter.unusedVariables false
set_option maxRecDepth 100000
theorem bits_cut {n v w : Nat} {r s : List Bool} (hv : v < 2 ^ n) (hw : w < 2 ^ n) (h : bitsN n v ++ r = bitsN n w ++ s) : v = w ∧ r = s := by
 have h1 := List.append_inj h (by rw [length_bitsN,length_bitsN])
 refine ⟨?_,h1.2⟩
 have h2 := congrArg num h1.1
 rw [num_bitsN,num_bitsN,Nat.mod_eq_of_lt hv,Nat.mod_eq_of_lt hw] at h2
 exact h2
theorem varTo_groups (v w n m : Nat) : ∀ k,varTo v n k = varTo w m k → ∀ i,i < k → grpAt v n i = grpAt w m i := by
 intro k
 induction k with
 | zero => intro _ i hi; omega
 | succ k ih =>
  intro h i hi
  rw [varTo,varTo] at h
  have h1 := List.append_inj h (by rw [length_varTo,length_varTo])
  rcases Nat.lt_or_ge i k with hk | hk
  ·exact ih h1.1 i hk
  ·have : i = k := by omega
   subst this
   have h2 : bitsN 5 (grpAt v n i) ++ [] = bitsN 5 (grpAt w m i) ++ [] := by rw [h1.2]
   exact (bits_cut (Nat.lt_of_lt_of_le (grpAt_lt v n i) (by decide)) (Nat.lt_of_lt_of_le (grpAt_lt w m i) (by decide)) h2).1
theorem varTo_split (w m n j : Nat) : ∃ t,varTo w m (n + j) = varTo w m n ++ t ∧ (j = 0 → t = []) := by
 induction j with
 | zero => exact ⟨[],by simp,fun _ => rfl⟩
 | succ j ih =>
  obtain ⟨t,ht,_⟩ := ih
  exact ⟨t ++ bitsN 5 (grpAt w m (n + j)),by rw [← Nat.add_assoc,varTo,ht,List.append_assoc],fun h => by omega⟩
theorem dig_eq : ∀ (n v w : Nat),v < 2 ^ (4 * n) → w < 2 ^ (4 * n) → (∀ i,i < n → v / 2 ^ (4 * i) % 16 = w / 2 ^ (4 * i) % 16) → v = w := by
 intro n
 induction n with
 | zero => intro v w hv hw _; simp at hv hw; omega
 | succ n ih =>
  intro v w hv hw h
  have h0 := h 0 (by omega)
  simp at h0
  have e : 2 ^ (4 * (n + 1)) = 16 * 2 ^ (4 * n) := by rw [Nat.mul_add,Nat.pow_add]; omega
  rw [e] at hv hw
  have h1 := ih (v / 16) (w / 16) (Nat.div_lt_of_lt_mul hv) (Nat.div_lt_of_lt_mul hw) (fun i hi => by
   have h2 := h (i + 1) (by omega)
   have e2 : 2 ^ (4 * (i + 1)) = 16 * 2 ^ (4 * i) := by rw [Nat.mul_add,Nat.pow_add]; omega
   rw [e2] at h2
   rw [Nat.div_div_eq_div_mul,Nat.div_div_eq_div_mul]
   exact h2)
  omega
theorem lt_grpP (v : Nat) (h : v < 18446744073709551616) : v < 2 ^ (4 * grp v) := by
 refine Nat.lt_of_lt_of_le (lt_bitLen v h) (Nat.pow_le_pow_right (by decide) ?_)
 unfold grp
 omega
theorem var_cut_le {v w : Nat} {r s : List Bool} (hv : v < 18446744073709551616) (hw : w < 18446744073709551616) (hle : grp v ≤ grp w) (h : var v ++ r = var w ++ s) : v = w ∧ r = s := by
 obtain ⟨j,hj⟩ : ∃ j,grp w = grp v + j := ⟨grp w - grp v,by omega⟩
 obtain ⟨t,ht,ht0⟩ := varTo_split w (grp w) (grp v) j
 have hb := grp_bd v hv
 unfold var at h
 have e : varTo w (grp w) (grp w) = varTo w (grp w) (grp v) ++ t := by rw [← ht,← hj]
 rw [e,List.append_assoc] at h
 have h1 := List.append_inj h (by rw [length_varTo,length_varTo])
 have h2 := varTo_groups v w (grp v) (grp w) (grp v) h1.1
 have h3 := h2 (grp v - 1) (by omega)
 unfold grpAt at h3
 rw [if_neg (by omega)] at h3
 have hj0 : j = 0 := by
  rcases Nat.eq_zero_or_pos j with h0 | h0
  ·exact h0
  ·rw [if_pos (by omega)] at h3; omega
 have hg : grp w = grp v := by omega
 have hr : r = s := by rw [h1.2,ht0 hj0]; rfl
 refine ⟨?_,hr⟩
 refine dig_eq (grp v) v w (lt_grpP v hv) (by rw [← hg]; exact lt_grpP w hw) (fun i hi => ?_)
 have h4 := h2 i hi
 unfold grpAt at h4
 rw [hg] at h4
 omega
theorem var_cut {v w : Nat} {r s : List Bool} (hv : v < 18446744073709551616) (hw : w < 18446744073709551616) (h : var v ++ r = var w ++ s) : v = w ∧ r = s := by
 rcases Nat.le_total (grp v) (grp w) with hle | hle
 ·exact var_cut_le hv hw hle h
 ·obtain ⟨h1,h2⟩ := var_cut_le hw hv hle h.symm
  exact ⟨h1.symm,h2.symm⟩
theorem idB_cut {a i j : Nat} {r s : List Bool} (hi : a < i ∧ i < 4294967296) (hj : a < j ∧ j < 4294967296) (h : idB a i ++ r = idB a j ++ s) : i = j ∧ r = s := by
 unfold idB at h
 obtain ⟨h1,h2⟩ := var_cut (by omega) (by omega) h
 exact ⟨by omega,h2⟩
theorem val_inj : ∀ (a b c d e f a' b' c' d' e' f' : Bool),val a b c d e f = val a' b' c' d' e' f' → a = a' ∧ b = b' ∧ c = c' ∧ d = d' ∧ e = e' ∧ f = f' := by
 intro a b c d e f a' b' c' d' e' f' h
 unfold val at h
 cases a <;> cases a' <;> cases b <;> cases b' <;> simp at h ⊢ <;> first | omega | (cases c <;> cases c' <;> cases d <;> cases d' <;> simp at h ⊢ <;> first | omega | (cases e <;> cases e' <;> cases f <;> cases f' <;> simp at h ⊢))
theorem msk_has {C D : List Cp} (h : msk C = msk D) : ∀ k,k < 6 → hasK C k = hasK D k := by
 rw [msk_val,msk_val] at h
 obtain ⟨h0,h1,h2,h3,h4,h5⟩ := val_inj _ _ _ _ _ _ _ _ _ _ _ _ h
 intro k hk
 match k,hk with
 | 0,_ => exact h0
 | 1,_ => exact h1
 | 2,_ => exact h2
 | 3,_ => exact h3
 | 4,_ => exact h4
 | 5,_ => exact h5
theorem kinds_eq {C D : List Cp} (hC : Good C) (hD : Good D) (h : msk C = msk D) : C.map (·.k) = D.map (·.k) := by
 have hm := msk_has h
 have key : ∀ {A B : List Cp},Good A → (∀ k,k < 6 → hasK A k = hasK B k) → ∀ x,x ∈ A.map (·.k) → x ∈ B.map (·.k) := fun hA hk x hx => by
  obtain ⟨q,hq,rfl⟩ := List.mem_map.1 hx
  have h1 := mem_hasK hq
  rw [hk q.k (hA.2 q hq)] at h1
  obtain ⟨y,hy⟩ := hasK_fst h1
  have h2 := fst_some hy
  exact List.mem_map.2 ⟨y,h2.1,h2.2⟩
 exact up_mem (fun x : Nat => x) (List.pairwise_map.2 hC.1) (List.pairwise_map.2 hD.1) (fun x => ⟨key hC hm x,key hD (fun k hk => (hm k hk).symm) x⟩)
theorem cb_fields (k : Nat) (F G : Nat → Int) : ∀ n,cb k F n = cb k G n → ∀ j,j < n → fb k F j = fb k G j := by
 intro n
 induction n with
 | zero => intro _ j hj; omega
 | succ n ih =>
  intro h j hj
  rw [cb,cb] at h
  have h1 := List.append_inj h (by rw [length_cb,length_cb])
  rcases Nat.lt_or_ge j n with hk | hk
  ·exact ih h1.1 j hk
  ·have : j = n := by omega
   subst this
   exact h1.2
theorem fb_eq {k j : Nat} {F G : Nat → Int} (hF : lo k j ≤ F j ∧ F j ≤ hi k j) (hG : lo k j ≤ G j ∧ G j ≤ hi k j) (hj : j < cnt k) (h : fb k F j = fb k G j) : F j = G j := by
 obtain ⟨l0,l1,l2,l3⟩ := rng_ok k j hj
 have a := in_lt (F j) (lo k j) (hi k j) (by omega) (by omega) hF.1 hF.2
 have b := in_lt (G j) (lo k j) (hi k j) (by omega) (by omega) hG.1 hG.2
 unfold fb at h
 have h2 : bitsN (wd k j) (F j - lo k j).toNat ++ [] = bitsN (wd k j) (G j - lo k j).toNat ++ [] := by rw [h]
 have := (bits_cut a b h2).1
 omega
theorem cpB_cut {q q' : Cp} {r s : List Bool} (hk : q.k = q'.k) (hq : chk q.k (f3 q.a q.b q.c) = 0) (hq' : chk q'.k (f3 q'.a q'.b q'.c) = 0) (h : cpB q ++ r = cpB q' ++ s) : q = q' ∧ r = s := by
 obtain ⟨k,a,b,c⟩ := q
 obtain ⟨k',a',b',c'⟩ := q'
 simp only at hk
 subst hk
 unfold cpB at h
 simp only at h hq hq'
 have h1 := List.append_inj h (by rw [length_cb,length_cb])
 obtain ⟨_,f1,f2⟩ := chk_ok _ _ hq
 obtain ⟨_,g1,g2⟩ := chk_ok _ _ hq'
 have key : ∀ j,j < 3 → f3 a b c j = f3 a' b' c' j := fun j hj => by
  by_cases hc : j < cnt k
  ·exact fb_eq (f1 j hc) (g1 j hc) hc (cb_fields k _ _ _ h1.1 j hc)
  ·rw [f2 j (by omega) hj,g2 j (by omega) hj]
 have e0 : a = a' := key 0 (by decide)
 have e1 : b = b' := key 1 (by decide)
 have e2 : c = c' := key 2 (by decide)
 exact ⟨by rw [e0,e1,e2],h1.2⟩
theorem cpsB_cut : ∀ {C D : List Cp} {r s : List Bool},C.map (·.k) = D.map (·.k) → (∀ q ∈ C,chk q.k (f3 q.a q.b q.c) = 0) → (∀ q ∈ D,chk q.k (f3 q.a q.b q.c) = 0) → cpsB C ++ r = cpsB D ++ s → C = D ∧ r = s := by
 intro C
 induction C with
 | nil =>
  intro D r s hk _ _ h
  cases D with
  | nil => exact ⟨rfl,h⟩
  | cons q t => simp at hk
 | cons x t ih =>
  intro D r s hk hC hD h
  cases D with
  | nil => simp at hk
  | cons y u =>
   simp only [List.map_cons,List.cons.injEq] at hk
   simp only [cpsB,List.append_assoc] at h
   obtain ⟨h1,h2⟩ := cpB_cut hk.1 (hC x (by simp)) (hD y (by simp)) h
   obtain ⟨h3,h4⟩ := ih hk.2 (fun q hq => hC q (by simp [hq])) (fun q hq => hD q (by simp [hq])) h2
   exact ⟨by rw [h1,h3],h4⟩
def EnOk (x : En) : Prop := 1024 ≤ x.1 ∧ x.1 < 4294967296 ∧ lst (-1) x.2 = 0 ∧ un x.2 = false
theorem entB_cut {a : Nat} {x y : En} {r s : List Bool} (hx : EnOk x) (hy : EnOk y) (hax : a < x.1) (hay : a < y.1) (h : entB a x ++ r = entB a y ++ s) : x = y ∧ r = s := by
 unfold entB at h
 simp only [List.append_assoc] at h
 obtain ⟨h1,h2⟩ := idB_cut ⟨hax,hx.2.1⟩ ⟨hay,hy.2.1⟩ h
 obtain ⟨h3,h4⟩ := bits_cut (Nat.lt_of_lt_of_le (msk_lt32 hx.2.2.2) (by decide)) (Nat.lt_of_lt_of_le (msk_lt32 hy.2.2.2) (by decide)) h2
 have lx := lst_ok hx.2.2.1
 have ly := lst_ok hy.2.2.1
 obtain ⟨h5,h6⟩ := cpsB_cut (kinds_eq (good_of hx.2.2.1) (good_of hy.2.2.1) h3) (fun q hq => (lx.2 q hq).2) (fun q hq => (ly.2 q hq).2) h4
 exact ⟨Prod.ext h1 h5,h6⟩
theorem entsB_cut : ∀ {X Y : List En} {a : Nat} {r s : List Bool},X.length = Y.length → X.Pairwise (fun a b => a.1 < b.1) → Y.Pairwise (fun a b => a.1 < b.1) → (∀ x ∈ X,EnOk x ∧ a < x.1) → (∀ x ∈ Y,EnOk x ∧ a < x.1) → entsB a X ++ r = entsB a Y ++ s → X = Y ∧ r = s := by
 intro X
 induction X with
 | nil =>
  intro Y a r s hl _ _ _ _ h
  cases Y with
  | nil => exact ⟨rfl,h⟩
  | cons y t => simp at hl
 | cons x t ih =>
  intro Y a r s hl hX hY oX oY h
  cases Y with
  | nil => simp at hl
  | cons y u =>
   simp only [entsB,List.append_assoc] at h
   have x1 := oX x (by simp)
   have y1 := oY y (by simp)
   obtain ⟨h1,h2⟩ := entB_cut x1.1 y1.1 x1.2 y1.2 h
   subst h1
   have pX := List.pairwise_cons.1 hX
   have pY := List.pairwise_cons.1 hY
   obtain ⟨h3,h4⟩ := ih (by simpa using hl) pX.2 pY.2 (fun z hz => ⟨(oX z (by simp [hz])).1,pX.1 z hz⟩) (fun z hz => ⟨(oY z (by simp [hz])).1,pY.1 z hz⟩) h2
   exact ⟨by rw [h3],h4⟩
theorem mz_inj {F G G' : Nat → Int} {j : Nat} (h : mz F G j = mz F G' j) : G j = G' j := by
 unfold mz zig at h
 split at h <;> split at h <;> omega
theorem sb_cut {k j : Nat} {F G G' : Nat → Int} {r s : List Bool} (hj : j < cnt k) (hG : lo k j ≤ G j ∧ G j ≤ hi k j) (hG' : lo k j ≤ G' j ∧ G' j ≤ hi k j) (h : sb k F G j ++ r = sb k F G' j ++ s) : G j = G' j ∧ r = s := by
 have b1 : bitsN 1 0 = [false] := rfl
 have b2 : bitsN 2 3 = [true,true] := rfl
 have b3 : bitsN 2 1 = [true,false] := rfl
 unfold sb at h
 by_cases z1 : mz F G j = 0
 ·rw [if_pos z1] at h
  by_cases z2 : mz F G' j = 0
  ·rw [if_pos z2,b1] at h
   exact ⟨mz_inj (by rw [z1,z2]),by simpa using h⟩
  ·rw [if_neg z2] at h
   split at h
   ·rw [b1,b2] at h; simp at h
   ·rw [b1,b3] at h; simp at h
 ·rw [if_neg z1] at h
  by_cases n1 : mz F G j ≤ 16
  ·rw [if_pos n1] at h
   by_cases z2 : mz F G' j = 0
   ·rw [if_pos z2,b1,b2] at h; simp at h
   ·rw [if_neg z2] at h
    by_cases n2 : mz F G' j ≤ 16
    ·rw [if_pos n2,b2] at h
     simp only [List.cons_append,List.nil_append,List.cons.injEq,true_and] at h
     obtain ⟨h1,h2⟩ := bits_cut (n := 4) (by show _ < 16; omega) (by show _ < 16; omega) h
     exact ⟨mz_inj (F := F) (by omega),h2⟩
    ·rw [if_neg n2,b2,b3] at h; simp at h
  ·rw [if_neg n1] at h
   by_cases z2 : mz F G' j = 0
   ·rw [if_pos z2,b1,b3] at h; simp at h
   ·rw [if_neg z2] at h
    by_cases n2 : mz F G' j ≤ 16
    ·rw [if_pos n2,b2,b3] at h; simp at h
    ·rw [if_neg n2,b3] at h
     simp only [List.cons_append,List.nil_append,List.cons.injEq,true_and] at h
     have h1 := List.append_inj h (by rw [length_fb,length_fb])
     exact ⟨fb_eq hG hG' hj h1.1,h1.2⟩
theorem sbs_cut {k : Nat} {F G G' : Nat → Int} (hG : ∀ j,j < cnt k → lo k j ≤ G j ∧ G j ≤ hi k j) (hG' : ∀ j,j < cnt k → lo k j ≤ G' j ∧ G' j ≤ hi k j) : ∀ (n : Nat) {r s : List Bool},n ≤ cnt k → sbs k F G n ++ r = sbs k F G' n ++ s → (∀ j,j < n → G j = G' j) ∧ r = s := by
 intro n
 induction n with
 | zero => intro r s _ h; exact ⟨fun j hj => by omega,by simpa [sbs] using h⟩
 | succ n ih =>
  intro r s hn h
  rw [sbs,sbs,List.append_assoc,List.append_assoc] at h
  obtain ⟨h1,h2⟩ := ih (by omega) h
  obtain ⟨h3,h4⟩ := sb_cut (by omega) (hG n (by omega)) (hG' n (by omega)) h2
  refine ⟨fun j hj => ?_,h4⟩
  rcases Nat.lt_or_ge j n with hk | hk
  ·exact h1 j hk
  ·have : j = n := by omega
   subst this
   exact h3
def StOk (A : List Cp) (q : Cp) : Prop := (∃ y,fst A q.k = some y) ∧ chk q.k (f3 q.a q.b q.c) = 0
theorem stpB_cut {A : List Cp} {q q' : Cp} {r s : List Bool} (hk : q.k = q'.k) (hq : StOk A q) (hq' : StOk A q') (h : stpB A q ++ r = stpB A q' ++ s) : q = q' ∧ r = s := by
 obtain ⟨k,a,b,c⟩ := q
 obtain ⟨k',a',b',c'⟩ := q'
 simp only at hk
 subst hk
 obtain ⟨⟨y,hy⟩,hc⟩ := hq
 obtain ⟨_,hc'⟩ := hq'
 unfold stpB at h
 simp only at h hy hc hc'
 rw [hy] at h
 simp only at h
 obtain ⟨_,f1,f2⟩ := chk_ok _ _ hc
 obtain ⟨_,g1,g2⟩ := chk_ok _ _ hc'
 obtain ⟨h1,h2⟩ := sbs_cut f1 g1 _ (Nat.le_refl _) h
 have key : ∀ j,j < 3 → f3 a b c j = f3 a' b' c' j := fun j hj => by
  by_cases hcn : j < cnt k
  ·exact h1 j hcn
  ·rw [f2 j (by omega) hj,g2 j (by omega) hj]
 have e0 : a = a' := key 0 (by decide)
 have e1 : b = b' := key 1 (by decide)
 have e2 : c = c' := key 2 (by decide)
 exact ⟨by rw [e0,e1,e2],h2⟩
theorem stpsB_cut {A : List Cp} : ∀ {C D : List Cp} {r s : List Bool},C.map (·.k) = D.map (·.k) → (∀ q ∈ C,StOk A q) → (∀ q ∈ D,StOk A q) → stpsB A C ++ r = stpsB A D ++ s → C = D ∧ r = s := by
 intro C
 induction C with
 | nil =>
  intro D r s hk _ _ h
  cases D with
  | nil => exact ⟨rfl,h⟩
  | cons q t => simp at hk
 | cons x t ih =>
  intro D r s hk hC hD h
  cases D with
  | nil => simp at hk
  | cons y u =>
   simp only [List.map_cons,List.cons.injEq] at hk
   simp only [stpsB,List.append_assoc] at h
   obtain ⟨h1,h2⟩ := stpB_cut hk.1 (hC x (by simp)) (hD y (by simp)) h
   obtain ⟨h3,h4⟩ := ih hk.2 (fun q hq => hC q (by simp [hq])) (fun q hq => hD q (by simp [hq])) h2
   exact ⟨by rw [h1,h3],h4⟩
structure ChGo (W : List En) (c : Chg) : Prop where
 ok : ChOk W c
 gn : Good c.new
 gs : Good c.set
theorem chgB_cut {W : List En} {a : Nat} {c c' : Chg} {r s : List Bool} (hc : ChGo W c) (hc' : ChGo W c') (ha : a < c.id) (ha' : a < c'.id) (h : chgB W a c ++ r = chgB W a c' ++ s) : c = c' ∧ r = s := by
 unfold chgB at h
 simp only [List.append_assoc] at h
 obtain ⟨h1,h2⟩ := idB_cut ⟨ha,hc.ok.id32⟩ ⟨ha',hc'.ok.id32⟩ h
 obtain ⟨h3,h4⟩ := bits_cut (Nat.lt_of_lt_of_le hc.ok.lost (by decide)) (Nat.lt_of_lt_of_le hc'.ok.lost (by decide)) h2
 obtain ⟨h5,h6⟩ := bits_cut (Nat.lt_of_lt_of_le hc.ok.mn (by decide)) (Nat.lt_of_lt_of_le hc'.ok.mn (by decide)) h4
 obtain ⟨h7,h8⟩ := bits_cut (Nat.lt_of_lt_of_le hc.ok.ms (by decide)) (Nat.lt_of_lt_of_le hc'.ok.ms (by decide)) h6
 obtain ⟨h9,h10⟩ := cpsB_cut (kinds_eq hc.gn hc'.gn h5) (fun q hq => (hc.ok.kn q hq).2) (fun q hq => (hc'.ok.kn q hq).2) h8
 rw [h1] at h10
 obtain ⟨h11,h12⟩ := stpsB_cut (kinds_eq hc.gs hc'.gs h7) (fun q hq => by
  obtain ⟨y,hy,_,hq2⟩ := hc.ok.st q hq
  rw [h1] at hy
  exact ⟨⟨y,hy⟩,hq2⟩) (fun q hq => by
  obtain ⟨y,hy,_,hq2⟩ := hc'.ok.st q hq
  exact ⟨⟨y,hy⟩,hq2⟩) h10
 obtain ⟨i,lo',nw,st⟩ := c
 obtain ⟨i',lo'',nw',st'⟩ := c'
 simp only at h1 h3 h9 h11
 exact ⟨by rw [h1,h3,h9,h11],h12⟩
theorem headB_cut {k c e t s k' c' e' t' s' : Nat} {r q : List Bool} (h : Right k c e t s) (h' : Right k' c' e' t' s') (hb : headB k c e t s ++ r = headB k' c' e' t' s' ++ q) : (k = k' ∧ c = c' ∧ e = e' ∧ t = t' ∧ s = s') ∧ r = q := by
 unfold headB at hb
 rw [wid15,wid015] at hb
 simp only [List.append_assoc] at hb
 have a1 := h.k1
 have a2 := h.k5
 have a3 := h'.k1
 have a4 := h'.k5
 have a5 := h.c15
 have a6 := h'.c15
 obtain ⟨h1,h2⟩ := bits_cut (n := 3) (by show _ < 8; omega) (by show _ < 8; omega) hb
 have hk : k = k' := by omega
 subst hk
 obtain ⟨h3,h4⟩ := bits_cut (n := 4) (by show _ < 16; omega) (by show _ < 16; omega) h2
 obtain ⟨h5,h6⟩ := var_cut (by have := h.e32; omega) (by have := h'.e32; omega) h4
 by_cases hT : hasT k = true
 ·rw [if_pos hT,if_pos hT] at h6
  obtain ⟨h7,h8⟩ := bits_cut (n := 32) (by have := h.t32; show _ < 4294967296; omega) (by have := h'.t32; show _ < 4294967296; omega) h6
  by_cases h22 : k = 2
  ·rw [if_pos h22,if_pos h22] at h8
   have b1 := h.bf
   have b2 := h'.bf
   unfold bfit at b1 b2
   rw [if_pos h22] at b1 b2
   simp at b1 b2
   obtain ⟨h9,h10⟩ := var_cut (by have := h.t32; omega) (by have := h'.t32; omega) h8
   exact ⟨⟨rfl,h3,h5,h7,by omega⟩,h10⟩
  ·rw [if_neg h22,if_neg h22] at h8
   have b1 := h.bf
   have b2 := h'.bf
   unfold bfit at b1 b2
   rw [if_neg h22] at b1 b2
   simp at b1 b2
   exact ⟨⟨rfl,h3,h5,h7,by omega⟩,by simpa using h8⟩
 ·have h22 : k ≠ 2 := by rintro rfl; exact hT rfl
  rw [if_neg hT,if_neg hT,if_neg h22,if_neg h22] at h6
  have t1 := h.tf
  have t2 := h'.tf
  unfold tfit at t1 t2
  simp [hT] at t1 t2
  have b1 := h.bf
  have b2 := h'.bf
  unfold bfit at b1 b2
  rw [if_neg h22] at b1 b2
  simp at b1 b2
  exact ⟨⟨rfl,h3,h5,by omega,by omega⟩,by simpa using h6⟩
theorem idsB_cut : ∀ {X Y : List Nat} {a : Nat} {r s : List Bool},X.length = Y.length → X.Pairwise (· < ·) → Y.Pairwise (· < ·) → (∀ x ∈ X,a < x ∧ x < 4294967296) → (∀ x ∈ Y,a < x ∧ x < 4294967296) → idsB a X ++ r = idsB a Y ++ s → X = Y ∧ r = s := by
 intro X
 induction X with
 | nil =>
  intro Y a r s hl _ _ _ _ h
  cases Y with
  | nil => exact ⟨rfl,h⟩
  | cons y t => simp at hl
 | cons x t ih =>
  intro Y a r s hl hX hY oX oY h
  cases Y with
  | nil => simp at hl
  | cons y u =>
   simp only [idsB,List.append_assoc] at h
   obtain ⟨h1,h2⟩ := idB_cut (oX x (by simp)) (oY y (by simp)) h
   subst h1
   have pX := List.pairwise_cons.1 hX
   have pY := List.pairwise_cons.1 hY
   obtain ⟨h3,h4⟩ := ih (by simpa using hl) pX.2 pY.2 (fun z hz => ⟨pX.1 z hz,(oX z (by simp [hz])).2⟩) (fun z hz => ⟨pY.1 z hz,(oY z (by simp [hz])).2⟩) h2
   exact ⟨by rw [h3],h4⟩
theorem chgsB_cut {W : List En} : ∀ {X Y : List Chg} {a : Nat} {r s : List Bool},X.length = Y.length → (X.map Chg.id).Pairwise (· < ·) → (Y.map Chg.id).Pairwise (· < ·) → (∀ x ∈ X,ChGo W x ∧ a < x.id) → (∀ x ∈ Y,ChGo W x ∧ a < x.id) → chgsB W a X ++ r = chgsB W a Y ++ s → X = Y ∧ r = s := by
 intro X
 induction X with
 | nil =>
  intro Y a r s hl _ _ _ _ h
  cases Y with
  | nil => exact ⟨rfl,h⟩
  | cons y t => simp at hl
 | cons x t ih =>
  intro Y a r s hl hX hY oX oY h
  cases Y with
  | nil => simp at hl
  | cons y u =>
   simp only [chgsB,List.append_assoc] at h
   have x1 := oX x (by simp)
   have y1 := oY y (by simp)
   obtain ⟨h1,h2⟩ := chgB_cut x1.1 y1.1 x1.2 y1.2 h
   subst h1
   rw [List.map_cons] at hX hY
   have pX := List.pairwise_cons.1 hX
   have pY := List.pairwise_cons.1 hY
   obtain ⟨h3,h4⟩ := ih (by simpa using hl) pX.2 pY.2 (fun z hz => ⟨(oX z (by simp [hz])).1,pX.1 z.id (List.mem_map.2 ⟨z,hz,rfl⟩)⟩) (fun z hz => ⟨(oY z (by simp [hz])).1,pY.1 z.id (List.mem_map.2 ⟨z,hz,rfl⟩)⟩) h2
   exact ⟨by rw [h3],h4⟩
structure DlGo (W : List En) (d : Dl) : Prop where
 gu : d.gone.Pairwise (· < ·)
 g1 : ∀ i ∈ d.gone,0 < i ∧ i < 4294967296
 mu : d.come.Pairwise (fun a b => a.1 < b.1)
 mo : ∀ x ∈ d.come,EnOk x ∧ 0 < x.1
 hu : (d.chg.map Chg.id).Pairwise (· < ·)
 ho : ∀ x ∈ d.chg,ChGo W x ∧ 0 < x.id
 sz : d.gone.length < 18446744073709551616 ∧ d.come.length < 18446744073709551616 ∧ d.chg.length < 18446744073709551616
theorem dltB_cut {W : List En} {d d' : Dl} {r s : List Bool} (h : DlGo W d) (h' : DlGo W d') (hb : dltB W d ++ r = dltB W d' ++ s) : d = d' ∧ r = s := by
 unfold dltB at hb
 simp only [List.append_assoc] at hb
 obtain ⟨h1,h2⟩ := var_cut h.sz.1 h'.sz.1 hb
 obtain ⟨h3,h4⟩ := idsB_cut h1 h.gu h'.gu h.g1 h'.g1 h2
 obtain ⟨h5,h6⟩ := var_cut h.sz.2.1 h'.sz.2.1 h4
 obtain ⟨h7,h8⟩ := entsB_cut h5 h.mu h'.mu h.mo h'.mo h6
 obtain ⟨h9,h10⟩ := var_cut h.sz.2.2 h'.sz.2.2 h8
 obtain ⟨h11,h12⟩ := chgsB_cut h9 h.hu h'.hu h.ho h'.ho h10
 obtain ⟨a,b,c⟩ := d
 obtain ⟨a',b',c'⟩ := d'
 simp only at h3 h7 h11
 exact ⟨by rw [h3,h7,h11],h12⟩
theorem frm_pack {L M : List Bool} (h : frm (pack L) = frm (pack M)) : ∃ r s,L ++ r = M ++ s := by
 have hl := congrArg List.length h
 rw [length_frm,length_frm] at hl
 have h1 : pack L = pack M := by
  unfold frm at h
  exact (List.append_inj h (by omega)).1
 have h2 : bitsB (pack L) = bitsB (pack M) := by rw [h1]
 rw [bitsB_pack,bitsB_pack] at h2
 exact ⟨_,_,h2⟩
theorem aft_g {x : En} {t : List En} {g : List Nat} {c : List Chg} {L : List En} (h : AftR t g c L) : AftR (x :: t) (x.1 :: g) c L := by
 unfold AftR
 simp only [List.head?_cons,if_true,List.tail_cons]
 exact h
theorem aft_c {x : En} {t : List En} {g : List Nat} {y : Chg} {c : List Chg} {M : List Cp} {L : List En} (hg : g.head? ≠ some x.1) (hy : y.id = x.1) (hM : ChgR x.2 y M) (h : AftR t g c L) : AftR (x :: t) g (y :: c) ((x.1,M) :: L) := by
 unfold AftR
 rw [if_neg hg]
 simp only
 rw [if_pos hy]
 exact ⟨M,L,rfl,hM,h⟩
theorem aft_s {x : En} {t : List En} {g : List Nat} {c : List Chg} {L : List En} (hg : g.head? ≠ some x.1) (hc : c.head?.map Chg.id ≠ some x.1) (h : AftR t g c L) : AftR (x :: t) g c (x :: L) := by
 unfold AftR
 rw [if_neg hg]
 cases c with
 | nil => exact ⟨L,rfl,h⟩
 | cons y c =>
  simp only
  rw [if_neg (by simpa using hc)]
  exact ⟨L,rfl,h⟩
theorem chgR_ex (C : List Cp) (c : Chg) : ∃ M,ChgR C c M := by
 refine ⟨(mid C c).mergeSort (fun a b => decide (a.k ≤ b.k)),List.mergeSort_perm _ _,?_⟩
 have h := List.pairwise_mergeSort (le := fun a b : Cp => decide (a.k ≤ b.k)) (fun a b c h1 h2 => by simp at h1 h2 ⊢; omega) (fun a b => by simp; omega) (mid C c)
 exact h.imp (fun h => by simpa using h)
theorem aft_ex (W : List En) : ∀ (g : List Nat) (c : List Chg),∃ L,AftR W g c L := by
 induction W with
 | nil => exact fun g c => ⟨[],by simp [AftR]⟩
 | cons x t ih =>
  intro g c
  by_cases hg : g.head? = some x.1
  ·match g,hg with
   | y :: g',hg =>
    have e : y = x.1 := by simpa using hg
    subst e
    obtain ⟨L,hL⟩ := ih g' c
    exact ⟨L,aft_g hL⟩
  ·by_cases hc : c.head?.map Chg.id = some x.1
   ·match c,hc with
    | y :: c',hc =>
     have e : y.id = x.1 := by simpa using hc
     obtain ⟨L,hL⟩ := ih g c'
     obtain ⟨M,hM⟩ := chgR_ex x.2 y
     exact ⟨_,aft_c hg e hM hL⟩
   ·obtain ⟨L,hL⟩ := ih g c
    exact ⟨_,aft_s hg hc hL⟩
theorem btw_inj {W N R : List En} (hW : Snap W) (hN : Snap N) (hR : Snap R) (h : btw W R = btw W N) : R = N := by
 obtain ⟨L,hL⟩ := aft_ex W (btw W N).gone (btw W N).chg
 have h1 := aft_to W N hW hN L hL
 have h2 := aft_to W R hW hR L (by rw [h]; exact hL)
 rw [h] at h2
 exact sorted_one (fun e : En => e.1) N R hN.up (hR.up.imp (fun h => Nat.le_of_lt h)) (h2.symm.trans h1)
theorem enOk_of {N : List En} (h : fm 0 N = 0) (hI : ∀ e ∈ N,e.1 < 4294967296) : ∀ x ∈ N,EnOk x ∧ 0 < x.1 := fun x hx => by
 have h1 := fm_each h x hx
 exact ⟨⟨h1.1,hI x hx,h1.2.1,h1.2.2⟩,by omega⟩
theorem good_filter {C : List Cp} (h : Good C) (p : Cp → Bool) : Good (C.filter p) := ⟨h.1.filter p,fun q hq => h.2 q (List.mem_filter.1 hq).1⟩
theorem dlGo_of {W N : List En} (hW : fm 0 W = 0) (hN : fm 0 N = 0) (hIW : ∀ e ∈ W,e.1 < 4294967296) (hIN : ∀ e ∈ N,e.1 < 4294967296) (zW : W.length ≤ 1000000) (zN : N.length ≤ 1000000) : DlGo W (btw W N) := by
 have sW := Snap.of hW
 have sN := Snap.of hN
 rw [btw_dlt _ _ sW.up sN.up]
 have l1 := List.length_filter_le (fun e => (fstE N e.1).isNone) W
 have l2 := List.length_filter_le (fun e => (fstE W e.1).isNone) N
 have l3 := List.length_filterMap_le (chgO W) N
 refine ⟨?_,?_,?_,?_,?_,?_,?_⟩
 ·exact List.pairwise_map.2 (sW.up.filter _)
 ·intro i hi
  obtain ⟨e,he,rfl⟩ := List.mem_map.1 hi
  have he2 := (List.mem_filter.1 he).1
  have h1 := (fm_each hW e he2).1
  exact ⟨by omega,hIW e he2⟩
 ·exact sN.up.filter _
 ·intro x hx
  exact enOk_of hN hIN x (List.mem_filter.1 hx).1
 ·exact chg_up _ sN.up
 ·intro x hx
  obtain ⟨e,he,hec⟩ := List.mem_filterMap.1 hx
  have h1 := chOk_of hW hN he (hIN e he) hec
  obtain ⟨y,hy,rfl⟩ := chgO_of hec
  have g := good_of (fm_each hN e he).2.1
  exact ⟨⟨h1,good_filter g _,good_filter g _⟩,h1.id0⟩
 ·refine ⟨?_,?_,?_⟩
  ·show (((W.filter (fun e => (fstE N e.1).isNone)).map (·.1)).length) < _
   rw [List.length_map]; omega
  ·show ((N.filter (fun e => (fstE W e.1).isNone)).length) < _
   omega
  ·show ((N.filterMap (chgO W)).length) < _
   omega
def ccode (k : Nat) (W N : List En) : Nat := if k = 1 then fm 0 N else if k = 2 then dcode W N else if N.length = 0 then 0 else 4
def contB (k : Nat) (W N : List En) : List Bool := if k = 1 then var N.length ++ entsB 0 N else if k = 2 then dltB W (btw W N) else []
theorem dcode_0 {W N : List En} (h : dcode W N = 0) : fm 0 W = 0 ∧ fm 0 N = 0 := by
 unfold dcode at h
 split at h
 ·rename_i h1; exact absurd h h1
 ·rename_i h1; exact ⟨by simpa using h1,h⟩
theorem apart {k c e t s k' c' e' t' s' : Nat} {W X Y : List En} (h : Right k c e t s) (h' : Right k' c' e' t' s') (hIW : ∀ e ∈ W,e.1 < 4294967296) (hIX : ∀ e ∈ X,e.1 < 4294967296) (hIY : ∀ e ∈ Y,e.1 < 4294967296) (zW : W.length ≤ 1000000) (zX : X.length ≤ 1000000) (zY : Y.length ≤ 1000000) (cX : ccode k W X = 0) (cY : ccode k' W Y = 0) (hb : frm (pack (headB k c e t s ++ contB k W X)) = frm (pack (headB k' c' e' t' s' ++ contB k' W Y))) : (k = k' ∧ c = c' ∧ e = e' ∧ t = t' ∧ s = s') ∧ X = Y := by
 obtain ⟨r,q,h1⟩ := frm_pack hb
 rw [List.append_assoc,List.append_assoc] at h1
 obtain ⟨h2,h3⟩ := headB_cut h h' h1
 refine ⟨h2,?_⟩
 obtain ⟨rfl,-,-,-,-⟩ := h2
 unfold ccode at cX cY
 unfold contB at h3
 by_cases k1 : k = 1
 ·rw [if_pos k1] at cX cY
  rw [if_pos k1,if_pos k1,List.append_assoc,List.append_assoc] at h3
  obtain ⟨h4,h5⟩ := var_cut (by omega) (by omega) h3
  exact (entsB_cut h4 (Snap.of cX).up (Snap.of cY).up (enOk_of cX hIX) (enOk_of cY hIY) h5).1
 ·rw [if_neg k1] at cX cY
  rw [if_neg k1,if_neg k1] at h3
  by_cases k2 : k = 2
  ·rw [if_pos k2] at cX cY
   rw [if_pos k2,if_pos k2] at h3
   obtain ⟨a1,a2⟩ := dcode_0 cX
   obtain ⟨-,b2⟩ := dcode_0 cY
   obtain ⟨h4,-⟩ := dltB_cut (dlGo_of a1 a2 hIW hIX zW zX) (dlGo_of a1 b2 hIW hIY zW zY) h3
   exact btw_inj (Snap.of a1) (Snap.of b2) (Snap.of a2) h4
  ·rw [if_neg k2] at cX cY
   have x0 : X.length = 0 := by
    by_cases hx : X.length = 0
    ·exact hx
    ·rw [if_neg hx] at cX; cases cX
   have y0 : Y.length = 0 := by
    by_cases hx : Y.length = 0
    ·exact hx
    ·rw [if_neg hx] at cY; cases cY
   rw [List.eq_nil_of_length_eq_zero x0,List.eq_nil_of_length_eq_zero y0]
theorem cszV_filter (p : En → Bool) (N : List En) : cszV (N.filter p) ≤ cszV N := by
 induction N with
 | nil => simp
 | cons x t ih =>
  rw [List.filter_cons]
  split <;> simp only [cszV] <;> omega
theorem contB_le {k : Nat} {W N : List En} (hIW : ∀ e ∈ W,e.1 < 4294967296) (hIN : ∀ e ∈ N,e.1 < 4294967296) (zW : W.length + cszV W ≤ 400) (zN : N.length + cszV N ≤ 400) (hc : ccode k W N = 0) : (contB k W N).length ≤ 400000 := by
 have v80 : ∀ n,n ≤ 1000 → (var n).length ≤ 80 := fun n hn => by
  rw [length_var]
  have := (grp_bd n (by omega)).2
  omega
 unfold contB
 unfold ccode at hc
 by_cases k1 : k = 1
 ·rw [if_pos k1]
  have h1 := entsB_le 0 N hIN
  have h2 := v80 N.length (by omega)
  rw [List.length_append]
  omega
 ·rw [if_neg k1] at hc ⊢
  by_cases k2 : k = 2
  ·rw [if_pos k2] at hc ⊢
   obtain ⟨a1,a2⟩ := dcode_0 hc
   have hD := dlGo_of a1 a2 hIW hIN (by omega) (by omega)
   have i1 := idsB_le 0 (btw W N).gone (fun i hi => (hD.g1 i hi).2)
   have i2 := entsB_le 0 (btw W N).come (fun x hx => (hD.mo x hx).1.2.1)
   have i3 := chgsB_le W 0 (btw W N).chg (fun x hx => (hD.ho x hx).1.ok.id32)
   have e := btw_dlt _ _ (Snap.of a1).up (Snap.of a2).up
   have g1 : (btw W N).gone.length ≤ W.length := by rw [e]; show (List.map _ _).length ≤ _; rw [List.length_map]; exact List.length_filter_le _ _
   have g2 : (btw W N).come.length ≤ N.length := by rw [e]; exact List.length_filter_le _ _
   have g3 : (btw W N).chg.length ≤ N.length := by rw [e]; exact List.length_filterMap_le _ _
   have g4 : cszV (btw W N).come ≤ cszV N := by rw [e]; exact cszV_filter _ _
   have g5 : chz (btw W N).chg ≤ 2 * cszV N := by rw [e]; exact chz_of _ _
   have v1 := v80 (btw W N).gone.length (by omega)
   have v2 := v80 (btw W N).come.length (by omega)
   have v3 := v80 (btw W N).chg.length (by omega)
   unfold dltB
   simp only [List.length_append]
   omega
  ·rw [if_neg k2]
   simp
end Go.Proofs.YtgifeckbflkkpaaGreatDoor
