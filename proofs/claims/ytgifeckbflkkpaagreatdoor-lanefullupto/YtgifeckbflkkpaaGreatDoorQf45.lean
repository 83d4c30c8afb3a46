/- What a Step of at most a hundred entities takes: it always has room in a frame. -/
import Derived.Test.YtgifeckbflkkpaaGreatDoorQf44
import Derived.Test.YtgifeckbflkkpaaGreatDoorQf09
namespace Go.Proofs.YtgifeckbflkkpaaGreatDoor
open Go.RowKit
set_option linter.unusedVariables false
set_option maxRecDepth 100000
theorem grp8 (v : Nat) (h : v < 4294967296) : grp v ≤ 8 := by
 rcases Nat.lt_or_ge 8 (grp v) with c | c
 ·exfalso
  have := (grp_more v 7 (by omega)).1 c
  exact this (Nat.div_eq_of_lt (by simpa using h))
 ·exact c
theorem var40 (v : Nat) (h : v < 4294967296) : (var v).length ≤ 40 := by rw [length_var]; have := grp8 v h; omega
theorem idB40 (a i : Nat) (h : i < 4294967296) : (idB a i).length ≤ 40 := var40 _ (by omega)
theorem idsB40 (a : Nat) (G : List Nat) (h : ∀ i ∈ G,i < 4294967296) : (idsB a G).length ≤ 40 * G.length := by
 induction G generalizing a with
 | nil => simp [idsB]
 | cons i t ih =>
  have h1 := idB40 a i (h i (by simp))
  have h2 := ih i (fun j hj => h j (by simp [hj]))
  simp only [idsB,List.length_append,List.length_cons]
  omega
theorem entsB40 (a : Nat) (X : List En) (h : ∀ x ∈ X,x.1 < 4294967296) : (entsB a X).length ≤ 45 * X.length + 60 * cszV X := by
 induction X generalizing a with
 | nil => simp [entsB]
 | cons x t ih =>
  have h1 := idB40 a x.1 (h x (by simp))
  have h2 := ih x.1 (fun i hi => h i (by simp [hi]))
  have h3 := cpsB_le x.2
  simp only [entsB,entB,List.length_append,List.length_cons,length_bitsN,cszV]
  omega
theorem chgsB40 (W : List En) (a : Nat) (X : List Chg) (h : ∀ c ∈ X,c.id < 4294967296) : (chgsB W a X).length ≤ 55 * X.length + 66 * chz X := by
 induction X generalizing a with
 | nil => simp [chgsB]
 | cons c t ih =>
  have h0 := idB40 a c.id (h c (by simp))
  have h3 := cpsB_le c.new
  have h4 := stpsB_le (wasC W c.id) c.set
  have h2 := ih c.id (fun i hi => h i (by simp [hi]))
  simp only [chgsB,chgB,List.length_append,List.length_cons,length_bitsN,chz]
  omega
theorem filt2 {α : Type} (p q : α → Bool) (L : List α) (h : ∀ x ∈ L,p x = true → q x = false) : (L.filter p).length + (L.filter q).length ≤ L.length := by
 induction L with
 | nil => simp
 | cons x t ih =>
  have h1 := ih (fun y hy => h y (by simp [hy]))
  have h2 := h x (by simp)
  simp only [List.filter_cons,List.length_cons]
  cases hp : p x with
  | true =>
   rw [h2 hp]
   simp only [if_true,List.length_cons]
   simp; omega
  | false =>
   cases hq : q x <;> simp <;> omega
theorem new_set (A C : List Cp) : (C.filter (isNew A)).length + (C.filter (isSet A)).length ≤ C.length := filt2 _ _ C fun x _ h => by
 unfold isNew hasK at h
 have e : fst A x.k = none := by
  unfold fst
  rw [List.find?_eq_none]
  intro y hy
  have := List.any_eq_false.1 (by simpa using h : (A.any fun q => decide (q.k = x.k)) = false) y hy
  simpa using this
 unfold isSet
 rw [e]
theorem btw_bits (W N : List En) : 40 * (btw W N).gone.length + (45 * (btw W N).come.length + 60 * cszV (btw W N).come) + (55 * (btw W N).chg.length + 66 * chz (btw W N).chg) ≤ 40 * W.length + (55 * N.length + 66 * cszV N) := by
 fun_induction btw W N with
 | case1 => simp [cszV,chz]
 | case2 w ws ih => simp only [addG,List.length_cons]; omega
 | case3 n ns ih => simp only [addE,List.length_cons,cszV]; omega
 | case4 w ws n ns h ih => simp only [addG,List.length_cons] at ih ⊢; omega
 | case5 w ws n ns h h2 ih => simp only [addE,List.length_cons,cszV] at ih ⊢; omega
 | case6 w ws n ns h h2 ih =>
  have h3 := new_set w.2 n.2
  simp only [addC,List.length_cons,cszV]
  split
  ·omega
  ·simp only [List.length_cons,chz,chg1]
   omega
theorem step_bits (W N : List En) (hW : fm 0 W = 0) (hN : fm 0 N = 0) (hIW : ∀ e ∈ W,e.1 < 4294967296) (hIN : ∀ e ∈ N,e.1 < 4294967296) (zW : W.length ≤ 100) (zN : N.length + cszV N ≤ 400) : (contB 2 W N).length ≤ 31000 := by
 have hb := btw_bits W N
 have hg := dlGo_of hW hN hIW hIN (by omega) (by omega)
 have h1 := idsB40 0 (btw W N).gone (fun i hi => (hg.g1 i hi).2)
 have h2 := entsB40 0 (btw W N).come (fun x hx => (hg.mo x hx).1.2.1)
 have h3 := chgsB40 W 0 (btw W N).chg (fun x hx => (hg.ho x hx).1.ok.id32)
 have v1 := var40 (btw W N).gone.length (by omega)
 have v2 := var40 (btw W N).come.length (by omega)
 have v3 := var40 (btw W N).chg.length (by omega)
 have e : contB 2 W N = dltB W (btw W N) := rfl
 rw [e]
 unfold dltB
 simp only [List.length_append]
 omega
theorem step_fits {c e t s : Nat} {W N : List En} (hc : c < 16) (he : e ≠ 0) (he2 : e < 4294967296) (ht : t < 4294967296) (hs : s < t) (hW : fm 0 W = 0) (hN : fm 0 N = 0) (hIW : ∀ e ∈ W,e.1 < 4294967296) (hIN : ∀ e ∈ N,e.1 < 4294967296) (zW : W.length ≤ 100) (zN : N.length + cszV N ≤ 400) : wfit 2 c e t s W N 4100 = true := by
 have hb := step_bits W N hW hN hIW hIN zW zN
 have hh := headB_le 2 c e t s he2 ht
 have hl : (headB 2 c e t s ++ contB 2 W N).length ≤ 32000 := by rw [List.length_append]; omega
 have hnb : nb (headB 2 c e t s ++ contB 2 W N).length ≤ 4096 := by unfold nb; omega
 have hck : hchk 2 c e t s = 0 := by
  have e1 : tfit 2 t = true := rfl
  have e2 : bfit 2 t s = true := by unfold bfit; rw [if_pos rfl]; exact decide_eq_true hs
  unfold hchk
  rw [if_neg (by omega),e1,e2,if_neg (by simp; exact he)]
 have hcc : ccode 2 W N = 0 := by
  unfold ccode dcode
  rw [if_neg (by decide),if_pos rfl,hW,hN]
  rfl
 unfold wfit
 refine decide_eq_true ⟨(secode_0 hck hcc hnb).symm,?_⟩
 unfold sfr
 rw [length_frm,length_pack]
 omega
theorem drop_put {k : Nat} {H : List HeE} {y : HeE} (hk : 1 ≤ k) (h : ∀ x ∈ H,x.t < y.t) : (putH k H y).drop (below y.t ((putH k H y).map HeE.r)) = [y] := by
 have hq : ∀ Q : List HeE,(∀ x ∈ Q,x.t < y.t) → (Q ++ [y]).drop (below y.t ((Q ++ [y]).map HeE.r)) = [y] := fun Q hQ => by
  have hb : below y.t ((Q ++ [y]).map HeE.r) = Q.length := by
   unfold below
   rw [List.map_append,List.takeWhile_append_of_pos (fun e he => by
    obtain ⟨x,hx,rfl⟩ := List.mem_map.1 he
    exact decide_eq_true (hQ x hx))]
   simp [HeE.r]
  rw [hb,List.drop_left]
 unfold putH
 split
 ·rename_i hl
  cases H with
  | nil => simp at hl; omega
  | cons a t => exact hq t (fun x hx => h x (List.mem_cons_of_mem _ hx))
 ·exact hq H h
theorem pk_len {k c e t s : Nat} {W N : List En} (h : (sfr k c e t s W N).length ≤ 4100) : (pack (headB k c e t s ++ contB k W N)).length ≤ 4096 := by
 unfold sfr at h
 rw [length_frm] at h
 omega
end Go.Proofs.YtgifeckbflkkpaaGreatDoor
