/- The document's example of layer 21. -/
import Derived.Test.YtgifeckbflkkpaaGreatDoorQp32
import Derived.Test.YtgifeckbflkkpaaGreatDoorQp34
import Derived.Test.YtgifeckbflkkpaaGreatDoorQp17
import Derived.Test.YtgifeckbflkkpaaGreatDoorQp14
import Derived.OpenShut
namespace Go.Proofs.YtgifeckbflkkpaaGreatDoor
open Go.RowKit
set_option linter.unusedVariables false
set_option maxHeartbeats 8000000
set_option maxRecDepth 100000
theorem SendR.yes {c e bud st t st' code : Nat} {ss ss' put : Bool} {bo : Option (Nat × List En)} {N : List En} {P : List Nat} (h : SendR c e bud ss st bo t N code P ss' st' put) (h1 : (ss && decide (t ≤ st)) = false) (h2 : fm 0 N = 0) (h3 : lfit c e bud t bo N = true) : code = 0 ∧ P = lfrm c e bud t bo N ∧ ss' = true ∧ st' = t ∧ put = true := by
 rcases h with ⟨a,b,_⟩ | ⟨_,a,_⟩ | ⟨_,_,a,_⟩ | ⟨_,_,_,h⟩
 ·rw [a] at h1; simp at h1; omega
 ·exact absurd h2 a
 ·rw [h3] at a; cases a
 ·exact h
theorem putH_ok {k : Nat} {H : List HeE} {x : HeE} (hR : ROk k (H.map HeE.r)) (h : ∀ y ∈ H,y.t < x.t) (ht : x.t < 4294967296) : ROk k ((putH k H x).map HeE.r) where
 k1 := hR.k1
 k2 := hR.k2
 le := by
  have h1 := hR.le
  have h2 := hR.k1
  rw [List.length_map] at h1 ⊢
  unfold putH
  split
  ·rw [List.length_drop,List.length_append]; simp; omega
  ·rw [List.length_append]; simp; omega
 inc := by
  have e : ((H ++ [x]).map HeE.r).Pairwise (fun a b => a.1 < b.1) := by
   rw [List.map_append,List.pairwise_append]
   refine ⟨hR.inc,by simp,fun a ha b hb => ?_⟩
   obtain ⟨y,hy,rfl⟩ := List.mem_map.1 ha
   simp at hb
   subst hb
   exact h y hy
  unfold putH
  split
  ·rw [List.map_drop]; exact e.sublist (List.drop_sublist _ _)
  ·exact e
 lt := fun e he => by
  obtain ⟨y,hy,rfl⟩ := List.mem_map.1 he
  rcases putH_mem hy with hy | rfl
  ·exact hR.lt _ (List.mem_map.2 ⟨y,hy,rfl⟩)
  ·exact ht
theorem lfrm_none {c e bud t : Nat} {N : List En} (h : wfit 1 c e t 0 [] N bud = true) : lfrm c e bud t none N = sfr 1 c e t 0 [] N := by
 show wfr 1 c e t 0 [] N bud = _
 unfold wfr
 rw [if_pos h]
theorem lfrm_some {c e bud t a : Nat} {W N : List En} (h : wfit 2 c e t a W N bud = true) : lfrm c e bud t (some (a,W)) N = sfr 2 c e t a W N := by
 show (if wfit 2 c e t a W N bud = true then _ else _) = _
 rw [if_pos h]
theorem wf1 : wfit 1 3 1 1 0 [] [] 100 = true := by decide +kernel
theorem wf2 : wfit 2 3 1 2 1 [] [] 100 = true := by decide +kernel
theorem wf3 : wfit 2 3 1 3 1 [] [] 100 = true := by decide +kernel
theorem wf4 : wfit 1 3 1 4 0 [] [] 100 = true := by decide +kernel
theorem lsendN (w0 W : World) (htb : Tab w0) (htf : Tabf w0) (b rb st at_ t : Nat) (ss as_ : Bool) (H : List HeE) (X : List Thing) (h : Own w0 W (Cells b (lc 3 1 100 rb ss st as_ at_) 128 :: Ringe rb 2 (H.map HeE.r) :: X)) (hR : ROk 2 (H.map HeE.r)) (hE : ∀ x ∈ H,x.L = []) (hH : HOk H) (hT : ∀ x ∈ H,ss = true ∧ x.t ≤ st) (hs : (ss && decide (t ≤ st)) = false) (ht : t < 4294967296) (ha : at_ < 4294967296) (P : List Nat) (hf : lfit 3 1 100 t (lbo H as_ at_) [] = true) (hP : lfrm 3 1 100 t (lbo H as_ at_) [] = P) (h0 : 0 < P.length) :
  Calls Tryz.prog 23 #[.pointer (some ⟨b,0,none⟩),.int .u32 (t : Int),.slice none 0 0] W fun x w' => ∃ (g cap : Nat) (ya : Option Addr) (yc : Nat),x = .returned (.tuple #[.slice (some ⟨g,0,none⟩) P.length cap,.int .i64 0]) ∧ HOk [⟨t,ya,yc,[]⟩] ∧ Own w0 w' (Cells b (lc 3 1 100 rb true t as_ at_) 128 :: Ringe rb 2 ((putH 2 H ⟨t,ya,yc,[]⟩).map HeE.r) :: Row 5 1 (.slice (some ⟨g,0,none⟩) P.length cap) P.length (vrow P) :: EntsT ya yc [] :: X) := by
 refine (lsend w0 W htb htf X b 3 1 100 rb 2 st at_ ss as_ H hR hH hT (by omega) (by omega) (by omega) ha h t ht none 0 0 [] (fun w' hw => ⟨entsAt_nil w',fun x hx => by rw [hE x hx]; exact ⟨.inl rfl,fun y hy => by cases hy⟩⟩) rfl (by omega) (by omega) (fun x hx => by cases hx) (by unfold esz; simp [csz])).mono ?_
 rintro x w' ⟨v,code,P',ss',st',put,y,rfl,hS,hyt,hyL,hyo,hO⟩
 obtain ⟨rfl,hP',rfl,rfl,rfl⟩ := hS.yes hs rfl hf
 have hP2 : P' = P := by rw [hP']; exact hP
 subst hP2
 obtain ⟨yt,ya,yc,yL⟩ := y
 simp only at hyt hyL
 subst hyt
 have hyn : yL = [] := by
  have e : evs ([] : List EnE) = [] := rfl
  rw [e] at hyL
  unfold evs at hyL
  exact List.map_eq_nil_iff.1 hyL
 subst hyn
 obtain ⟨g,cap,rfl,_⟩ := row_shape hO.row h0
 exact ⟨g,cap,ya,yc,rfl,hyo,hO.perm (perm_lc _ _ _ _)⟩
theorem rt1 : Right 1 3 1 1 0 := ⟨by decide,by decide,by decide,by decide,by decide,by decide,by decide,by decide,by decide⟩
theorem rt2 : Right 2 3 1 2 1 := ⟨by decide,by decide,by decide,by decide,by decide,by decide,by decide,by decide,by decide⟩
theorem rt3 : Right 2 3 1 3 1 := ⟨by decide,by decide,by decide,by decide,by decide,by decide,by decide,by decide,by decide⟩
theorem rt4 : Right 1 3 1 4 0 := ⟨by decide,by decide,by decide,by decide,by decide,by decide,by decide,by decide,by decide⟩
theorem pk_le (k c e t s : Nat) (W N : List En) (h : wfit k c e t s W N 100 = true) : (pack (headB k c e t s ++ contB k W N)).length ≤ 4096 := by
 have h2 := (of_decide_eq_true h).2
 unfold sfr frm at h2
 rw [List.length_append] at h2
 omega
theorem sfr_byte (k c e t s : Nat) (W N : List En) : ∀ x ∈ sfr k c e t s W N,x < 256 := frm_byte _ (pack_byte _)
theorem sfr_pos (k c e t s : Nat) (W N : List En) : 0 < (sfr k c e t s W N).length := by
 unfold sfr frm
 rw [List.length_append]
 have h4 : ∀ x,(le4 x).length = 4 := fun _ => rfl
 rw [h4]; omega
theorem AckR.yes {as_ as' : Bool} {at_ at' t code n : Nat} {H : List HeE} {x : HeE} (h : AckR as_ at_ H t code as' at' n) (h1 : (as_ && decide (t ≤ at_)) = false) (h2 : hget H t = some x) : code = 0 ∧ as' = true ∧ at' = t ∧ n = below t (H.map HeE.r) := by
 rcases h with ⟨a,b,_⟩ | ⟨_,a,_⟩ | ⟨_,_,h⟩
 ·rw [a] at h1; simp at h1; omega
 ·rw [h2] at a; cases a
 ·exact h
theorem HOk.two {x y : HeE} (hx : HOk [x]) (hy : HOk [y]) : HOk [x,y] := fun z hz => by
 simp only [List.mem_cons,List.not_mem_nil,or_false] at hz
 rcases hz with rfl | rfl
 ·exact hx _ (by simp)
 ·exact hy _ (by simp)
theorem frame_in {w : World} {g cap : Nat} {P : List Nat} {w0 : World} {l : List Thing} (h : Own w0 w (Row 5 1 (.slice (some ⟨g,0,none⟩) P.length cap) P.length (vrow P) :: l)) (hb : ∀ x ∈ P,x < 256) : In w (some ⟨g,0,none⟩) P.length cap P := In.of_row h.row rfl hb
theorem awake21 (w : World) (htb : Tab w) (htf : Tabf w) : Calls Tryz.prog 19 #[] w fun x w' => x = .returned (.bool true) ∧ Fr Nobody w w' := by
 have HN : Hid (Calls _ _ _ _ _) := lnew w w [] (Own.start w) 3 1 (by decide) (by decide) 2 100 (by decide) (by decide) (by decide) (by decide)
 have HT : Hid (Tab w ∧ Tabf w) := ⟨htb,htf⟩
 obtain ⟨Pa,hPa⟩ : ∃ P,P = sfr 1 3 1 1 0 [] [] := ⟨_,rfl⟩
 obtain ⟨Pb,hPb⟩ : ∃ P,P = sfr 2 3 1 2 1 [] [] := ⟨_,rfl⟩
 obtain ⟨Pc,hPc⟩ : ∃ P,P = sfr 2 3 1 3 1 [] [] := ⟨_,rfl⟩
 obtain ⟨Pd,hPd⟩ : ∃ P,P = sfr 1 3 1 4 0 [] [] := ⟨_,rfl⟩
 have HP : Hid (Pa = sfr 1 3 1 1 0 [] [] ∧ Pb = sfr 2 3 1 2 1 [] [] ∧ Pc = sfr 2 3 1 3 1 [] [] ∧ Pd = sfr 1 3 1 4 0 [] []) := ⟨hPa,hPb,hPc,hPd⟩
 have HL : Hid (0 < Pa.length ∧ 0 < Pb.length ∧ 0 < Pc.length ∧ 0 < Pd.length) := ⟨by rw [hPa]; exact sfr_pos _ _ _ _ _ _ _,by rw [hPb]; exact sfr_pos _ _ _ _ _ _ _,by rw [hPc]; exact sfr_pos _ _ _ _ _ _ _,by rw [hPd]; exact sfr_pos _ _ _ _ _ _ _⟩
 clear htb htf hPa hPb hPc hPd
 go_enter Tryz.func19,Tryz.ntmps19
 go_wp2_with fail
 refine HN.out.mono ?_
 rintro x w1 ⟨b,rb,rfl,h1⟩
 clear HN
 have HS1 : Hid (Calls _ _ _ _ _) := lsendN w w1 HT.out.1 HT.out.2 b rb 0 0 1 false false [] [] h1 (ROk.nil (by decide) (by decide)) (fun x hx => by cases hx) (fun x hx => by cases hx) (fun x hx => by cases hx) rfl (by decide) (by decide) Pa (by show lfit 3 1 100 1 none [] = true; unfold lfit; simp [wf1]) ((lfrm_none wf1).trans HP.out.1.symm) HL.out.1
 clear h1
 go_wp2_with fail
 refine HS1.out.mono ?_
 rintro x w2 ⟨ga,ca,y1a,y1c,rfl,ho1,h2⟩
 clear HS1
 have e1 : putH 2 [] ⟨1,y1a,y1c,[]⟩ = [⟨1,y1a,y1c,[]⟩] := rfl
 rw [e1] at h2
 have hR1 : ROk 2 (([⟨1,y1a,y1c,[]⟩] : List HeE).map HeE.r) := by rw [← e1]; exact putH_ok (ROk.nil (by decide) (by decide)) (fun x hx => by cases hx) (by show (1 : Nat) < _; decide)
 have HA1 : Hid (Calls _ _ _ _ _) := lack w w2 _ b 3 1 100 rb 2 1 0 true false [⟨1,y1a,y1c,[]⟩] hR1 h2 1 (by decide)
 have HR1 : Hid (ROk 2 (([⟨1,y1a,y1c,[]⟩] : List HeE).map HeE.r) ∧ HOk [⟨1,y1a,y1c,[]⟩]) := ⟨hR1,ho1⟩
 clear h2 hR1 ho1 e1
 go_wp2_with fail
 refine HA1.out.mono ?_
 rintro x w3 ⟨code,as',at',n,rfl,hA,h3⟩
 obtain ⟨rfl,rfl,rfl,rfl⟩ := hA.yes (x := ⟨1,y1a,y1c,[]⟩) rfl rfl
 have h3 : Own w w3 (Cells b (lc 3 1 100 rb true 1 true 1) 128 :: Ringe rb 2 (([⟨1,y1a,y1c,[]⟩] : List HeE).map HeE.r) :: Row 5 1 (.slice (some ⟨ga,0,none⟩) Pa.length ca) Pa.length (vrow Pa) :: EntsT y1a y1c [] :: []) := h3
 have HS2 : Hid (Calls _ _ _ _ _) := lsendN w w3 HT.out.1 HT.out.2 b rb 1 1 2 true true [⟨1,y1a,y1c,[]⟩] _ h3 HR1.out.1 (fun x hx => by rw [List.mem_singleton.1 hx]) HR1.out.2 (fun x hx => by rw [List.mem_singleton.1 hx]; exact ⟨rfl,Nat.le_refl _⟩) rfl (by decide) (by decide) Pb (by show lfit 3 1 100 2 (some (1,[])) [] = true; unfold lfit; simp [wf2]) ((lfrm_some (a := 1) (W := []) wf2).trans HP.out.2.1.symm) HL.out.2.1
 clear h3 HA1 hA
 go_wp2_with fail
 refine HS2.out.mono ?_
 rintro x w4 ⟨gb,cb,y2a,y2c,rfl,ho2,h4⟩
 clear HS2
 have e2 : putH 2 [⟨1,y1a,y1c,[]⟩] ⟨2,y2a,y2c,[]⟩ = [⟨1,y1a,y1c,[]⟩,⟨2,y2a,y2c,[]⟩] := rfl
 rw [e2] at h4
 have hR2 : ROk 2 (([⟨1,y1a,y1c,[]⟩,⟨2,y2a,y2c,[]⟩] : List HeE).map HeE.r) := by rw [← e2]; exact putH_ok HR1.out.1 (fun x hx => by rw [List.mem_singleton.1 hx]; show (1 : Nat) < 2; decide) (by show (2 : Nat) < _; decide)
 have HS3 : Hid (Calls _ _ _ _ _) := lsendN w w4 HT.out.1 HT.out.2 b rb 2 1 3 true true [⟨1,y1a,y1c,[]⟩,⟨2,y2a,y2c,[]⟩] _ h4 hR2 (fun x hx => by simp only [List.mem_cons,List.not_mem_nil,or_false] at hx; rcases hx with rfl | rfl <;> rfl) (HR1.out.2.two ho2) (fun x hx => by simp only [List.mem_cons,List.not_mem_nil,or_false] at hx; rcases hx with rfl | rfl <;> exact ⟨rfl,by simp⟩) rfl (by decide) (by decide) Pc (by show lfit 3 1 100 3 (some (1,[])) [] = true; unfold lfit; simp [wf3]) ((lfrm_some (a := 1) (W := []) wf3).trans HP.out.2.2.1.symm) HL.out.2.2.1
 have HR2 : Hid (ROk 2 (([⟨1,y1a,y1c,[]⟩,⟨2,y2a,y2c,[]⟩] : List HeE).map HeE.r) ∧ HOk [⟨2,y2a,y2c,[]⟩]) := ⟨hR2,ho2⟩
 clear h4 e2 hR2 ho2
 go_wp2_with fail
 refine HS3.out.mono ?_
 rintro x w5 ⟨gc,cc,y3a,y3c,rfl,ho3,h5⟩
 clear HS3
 have e3 : putH 2 [⟨1,y1a,y1c,[]⟩,⟨2,y2a,y2c,[]⟩] ⟨3,y3a,y3c,[]⟩ = [⟨2,y2a,y2c,[]⟩,⟨3,y3a,y3c,[]⟩] := rfl
 rw [e3] at h5
 have hR3 : ROk 2 (([⟨2,y2a,y2c,[]⟩,⟨3,y3a,y3c,[]⟩] : List HeE).map HeE.r) := by rw [← e3]; exact putH_ok HR2.out.1 (fun x hx => by simp only [List.mem_cons,List.not_mem_nil,or_false] at hx; rcases hx with rfl | rfl <;> simp) (by show (3 : Nat) < _; decide)
 have HBA : Hid (Calls _ _ _ _ _) := lBase w w5 _ b 3 1 100 rb 2 3 1 true true [⟨2,y2a,y2c,[]⟩,⟨3,y3a,y3c,[]⟩] hR3 h5
 have HR3 : Hid (ROk 2 (([⟨2,y2a,y2c,[]⟩,⟨3,y3a,y3c,[]⟩] : List HeE).map HeE.r) ∧ HOk [⟨2,y2a,y2c,[]⟩,⟨3,y3a,y3c,[]⟩]) := ⟨hR3,HR2.out.2.two ho3⟩
 have hlb : lbo [⟨2,y2a,y2c,[]⟩,⟨3,y3a,y3c,[]⟩] true 1 = none := rfl
 rw [hlb] at HBA
 clear h5 e3 hR3 ho3 hlb
 go_wp2_with fail
 refine HBA.out.mono ?_
 rintro x w6 ⟨rfl,h6⟩
 clear HBA
 have HS4 : Hid (Calls _ _ _ _ _) := lsendN w w6 HT.out.1 HT.out.2 b rb 3 1 4 true true [⟨2,y2a,y2c,[]⟩,⟨3,y3a,y3c,[]⟩] _ h6 HR3.out.1 (fun x hx => by simp only [List.mem_cons,List.not_mem_nil,or_false] at hx; rcases hx with rfl | rfl <;> rfl) HR3.out.2 (fun x hx => by simp only [List.mem_cons,List.not_mem_nil,or_false] at hx; rcases hx with rfl | rfl <;> exact ⟨rfl,by simp⟩) rfl (by decide) (by decide) Pd (by show lfit 3 1 100 4 none [] = true; unfold lfit; simp [wf4]) ((lfrm_none wf4).trans HP.out.2.2.2.symm) HL.out.2.2.2
 clear h6
 simp only [Option.isSome_none]
 go_wp2_with fail
 refine HS4.out.mono ?_
 rintro x w7 ⟨gd,cd,y4a,y4c,rfl,ho4,h7⟩
 clear HS4 ho4
 have HKA : Hid (Calls _ _ _ _ _) := kind_ok w w7 _ h7 (some ⟨ga,0,none⟩) Pa.length ca Pa 1 3 1 1 0 (.inl rfl) rt1 _ _ rfl HP.out.1 (pk_le _ _ _ _ _ _ _ wf1) (frame_in (Own.lift (l := [_,_,_,_,_,_,_,_]) h7) (by rw [HP.out.1]; exact sfr_byte _ _ _ _ _ _ _))
 clear h7
 go_wp2_with fail
 refine HKA.out.mono ?_
 rintro x w8 ⟨rfl,h8⟩
 clear HKA
 have HKB : Hid (Calls _ _ _ _ _) := kind_ok w w8 _ h8 (some ⟨gb,0,none⟩) Pb.length cb Pb 2 3 1 2 1 (.inr rfl) rt2 _ _ rfl HP.out.2.1 (pk_le _ _ _ _ _ _ _ wf2) (frame_in (Own.lift (l := [_,_,_,_,_,_]) h8) (by rw [HP.out.2.1]; exact sfr_byte _ _ _ _ _ _ _))
 clear h8
 go_wp2_with fail
 refine HKB.out.mono ?_
 rintro x w9 ⟨rfl,h9⟩
 clear HKB
 have HKC : Hid (Calls _ _ _ _ _) := kind_ok w w9 _ h9 (some ⟨gc,0,none⟩) Pc.length cc Pc 2 3 1 3 1 (.inr rfl) rt3 _ _ rfl HP.out.2.2.1 (pk_le _ _ _ _ _ _ _ wf3) (frame_in (Own.lift (l := [_,_,_,_]) h9) (by rw [HP.out.2.2.1]; exact sfr_byte _ _ _ _ _ _ _))
 clear h9
 go_wp2_with fail
 refine HKC.out.mono ?_
 rintro x w10 ⟨rfl,h10⟩
 clear HKC
 have HKD : Hid (Calls _ _ _ _ _) := kind_ok w w10 _ h10 (some ⟨gd,0,none⟩) Pd.length cd Pd 1 3 1 4 0 (.inl rfl) rt4 _ _ rfl HP.out.2.2.2 (pk_le _ _ _ _ _ _ _ wf4) (frame_in (Own.lift (l := [_,_]) h10) (by rw [HP.out.2.2.2]; exact sfr_byte _ _ _ _ _ _ _))
 clear h10
 go_wp2_with fail
 refine HKD.out.mono ?_
 rintro x w11 ⟨rfl,h11⟩
 have HF : Hid (Fr Nobody w w11) := h11.fr
 clear HKD h11
 go_wp2
 go_ret
 exact ⟨rfl,HF.out⟩
end Go.Proofs.YtgifeckbflkkpaaGreatDoor
namespace Go.Proofs.YtgifeckbflkkpaaGreatDoor
open Go.ChangeShapes Go.WideShapes Go.ChangeAt Go.RowKit Go.Deep
set_option linter.unusedVariables false
set_option maxHeartbeats 8000000
set_option maxRecDepth 100000
theorem bulk_pos {H : Type} (d : DataW H) : 1 ≤ Rows.uptoBulk d := by
 cases d with
 | lit v => cases v <;> simp [Rows.uptoBulk]
 | _ => simp [Rows.uptoBulk]
theorem bulk_in {H : Type} {d : DataW H} {m : List (DataW H)} (h : d ∈ m) : Rows.uptoBulk d ≤ Rows.uptoBulkAll m := by
 induction m with
 | nil => cases h
 | cons y m ih =>
  simp only [Rows.uptoBulkAll]
  rcases List.mem_cons.1 h with rfl | h
  ·omega
  ·have := ih h; omega
theorem bulk_sum {H : Type} {D : Nat → DataW H} {s : Nat → Nat} : ∀ (R : List Nat),(∀ i ∈ R,s i ≤ Rows.uptoBulk (D i)) → (R.map s).sum ≤ Rows.uptoBulkAll (R.map D) := by
 intro R
 induction R with
 | nil => intro _; exact Nat.zero_le _
 | cons i R ih =>
  intro h
  have h1 := h i (by simp)
  have h2 := ih (fun j hj => h j (List.mem_cons_of_mem _ hj))
  simp only [List.map_cons,List.sum_cons,Rows.uptoBulkAll]
  omega
theorem bulk_slice {H : Type} (a b : List (DataW H)) : Rows.uptoBulk (.slice a b) = Rows.uptoBulkAll a + Rows.uptoBulkAll b + 1 := by simp only [Rows.uptoBulk]
theorem bulk_agg {H : Type} (a : List (DataW H)) : Rows.uptoBulk (.agg a) = Rows.uptoBulkAll a + 1 := by simp only [Rows.uptoBulk]
theorem open_rowsB {H : Type} {enc : TypeId × Value → H} {P : Program} {W : World} {ao : Option Addr} {len cap : Nat} {d : DataW H} {p : List MemPlace} {α : Type} [Inhabited α] {t e : TypeId} (s : Nat) (ht : P.underlying t = some (.slice e)) (hs : P.cellsOf e = s) (h0s : 0 < s) (G : List Value → α → Prop) (sz : α → Nat)
  (hG : ∀ fuel cs x,DataW.trod enc P W 0 (fun _ => true) true fuel e cs = some x → ∃ q,G cs q ∧ sz q ≤ Rows.uptoBulk x.1)
  (h : DataW.Trod enc P W 0 (fun _ => true) true t (.slice ao len cap) d p) :
  ∃ Q : List α,Q.length = len ∧ len ≤ cap ∧ cap ≤ maxLen ∧ RowsAt G s W ao Q ∧ (Q.map sz).sum ≤ Rows.uptoBulk d := by
 obtain ⟨fuel,hf⟩ := h
 rcases open_slice ht hf with ⟨hc,hd⟩ | ⟨a,l,c,m,n,D,Pl,hc,_,hl,hm,hmm,hd,hx⟩
 ·simp [Value.cells] at hc
  obtain ⟨rfl,rfl,rfl⟩ := hc
  exact ⟨[],rfl,Nat.le_refl _,Nat.zero_le _,.inl rfl,Nat.zero_le _⟩
 ·simp [Value.cells] at hc
  obtain ⟨rfl,rfl,rfl⟩ := hc
  simp only [Prod.mk.injEq] at hd
  obtain ⟨rfl,_⟩ := hd
  have hml : len ≤ m := by rw [hmm]; simp; omega
  have each : ∀ i,i < len → ∃ q : α,sz q ≤ Rows.uptoBulk (D i) ∧ ∃ cs,G cs q ∧ cs.length = s ∧ ∀ r,r < s → W.cell? ((a.add (i * s)).add r) = cs[r]? := by
   intro i hi
   obtain ⟨cs',h1,h2⟩ := hx i (by omega)
   rw [hs] at h1
   obtain ⟨_,hlen,hcell⟩ := World.cells?_some h1
   obtain ⟨q,hq,hb⟩ := hG _ _ _ h2
   exact ⟨q,hb,cs',hq,hlen,fun r hr => by rw [hcell r hr,List.getElem?_eq_getElem (by omega)]⟩
  obtain ⟨f,hfn⟩ := choose_lt each
  refine ⟨(List.range len).map f,by simp,hl,hm,?_,?_⟩
  ·by_cases h0 : len = 0
   ·subst h0; left; rfl
   ·right
    obtain ⟨g,o,spot⟩ := a
    obtain ⟨_,cs,_,hcl,hcc⟩ := hfn 0 (by omega)
    have h1 := hcc 0 h0s
    rw [List.getElem?_eq_getElem (by omega)] at h1
    have hsp : spot = none := by simpa [Addr.add] using World.cell?_spot h1
    subst hsp
    refine ⟨g,o,rfl,fun j q hj => ?_⟩
    have hjl : j < len := by
     have := (List.getElem?_eq_some_iff.1 hj).1
     simpa using this
    rw [List.getElem?_map,List.getElem?_range hjl] at hj
    simp only [Option.map_some,Option.some.injEq] at hj
    obtain ⟨_,cs,h1,h2,h3⟩ := hfn j hjl
    rw [hj] at h1
    refine ⟨cs,h1,h2,fun r hr => ?_⟩
    have := h3 r hr
    rw [addr_add,addr_add] at this
    exact this
  ·have h1 := bulk_sum (D := D) (s := fun i => sz (f i)) (List.range len) (fun i hi => (hfn i (by simpa using hi)).1)
   rw [bulk_slice,List.map_map]
   have e : sz ∘ f = fun i => sz (f i) := rfl
   rw [e]
   omega
theorem cellsEnt : Tryz.prog.cellsOf 60 = 2 := by kernel_rfl
theorem cellsEntC : Tryz.prog.cellsOf 58 = 1 := by kernel_rfl
theorem cellsEntI : Tryz.prog.cellsOf 57 = 1 := by kernel_rfl
theorem duo {β : Type} {l : List β} (h : l.length = 2) : ∃ a b,l = [a,b] := by
 match l,h with
 | [a,b],_ => exact ⟨a,b,rfl⟩
def EntI (W : World) (cs : List Value) (x : EnE) : Prop := cs = x.cs ∧ x.id < 4294967296 ∧ IsComps W x.ao x.C.length x.cap x.C
theorem ones_sum {α : Type} (Q : List α) : (Q.map (fun _ => 1)).sum = Q.length := by
 induction Q with
 | nil => rfl
 | cons a t ih => rw [List.map_cons,List.sum_cons,ih,List.length_cons]; omega
theorem open_csB {H : Type} {enc : TypeId × Value → H} {W : World} {fuel : Nat} {cs : List Value} {x : DataW H × List MemPlace} (h : DataW.trod enc Tryz.prog W 0 (fun _ => true) true fuel 58 cs = some x) : ∃ ao cap C,cs = [.slice ao (List.length C) cap] ∧ IsComps W ao (List.length C) cap C ∧ C.length ≤ Rows.uptoBulk x.1 := by
 obtain ⟨ao,len,cap,hv⟩ : ∃ ao len cap,cs = [.slice ao len cap] := by
  rcases open_slice Tryz.underlying58 h with ⟨hc,_⟩ | ⟨a,l,c,m,n,D,Pl,hc,_⟩
  ·exact ⟨_,_,_,hc⟩
  ·exact ⟨_,_,_,hc⟩
 subst hv
 obtain ⟨d,p⟩ := x
 obtain ⟨Q,h1,h2,h3,h4,h5⟩ := open_rowsB 4 Tryz.underlying58 cellsComp (by decide) CompIs (fun _ => 1) (fun fuel cs x hx => by
  obtain ⟨k,a,b,c,g1,g2,g3,g4,hcs,_⟩ := comp_cells hx
  obtain ⟨n,rfl,hn⟩ := ok8_nat g1
  exact ⟨⟨n,a,b,c⟩,⟨hcs,hn⟩,bulk_pos _⟩) (d := d) (p := p) ⟨fuel,h⟩
 subst h1
 refine ⟨ao,cap,Q,rfl,⟨rfl,h2,h3,h4⟩,?_⟩
 rw [ones_sum] at h5
 exact h5
theorem ent_is {H : Type} {enc : TypeId × Value → H} {W : World} (fuel : Nat) (cs : List Value) (x : DataW H × List MemPlace)
  (h : DataW.trod enc Tryz.prog W 0 (fun _ => true) true fuel 60 cs = some x) : ∃ e,EntI W cs e ∧ e.C.length + 1 ≤ Rows.uptoBulk x.1 := by
 obtain ⟨xs,n,_,hx,hl,hlen,hf⟩ := DataW.trod_struct Tryz.underlying60 h
 rw [cellsEnt] at hl
 obtain ⟨c0,c1,rfl⟩ := duo hl
 obtain ⟨y0,y1,rfl⟩ := duo hlen
 have h0 := hf 0 _ rfl
 have h1 := hf 1 _ rfl
 simp [cellsEntC,cellsEntI] at h0 h1
 obtain ⟨b,b0,_,wb⟩ := DataW.trod_int Tryz.underlying57 h0
 simp at b0
 subst b0
 have hb : 0 ≤ b ∧ b ≤ 4294967295 := by simpa [Lit.wf,IntKind.min,IntKind.max,IntKind.signed,IntKind.bits] using wb
 obtain ⟨bn,rfl⟩ := Int.eq_ofNat_of_zero_le hb.1
 obtain ⟨ao,cap,C,hv,hC,hs⟩ := open_csB h1
 simp at hv
 subst hv
 refine ⟨⟨bn,ao,cap,C⟩,⟨rfl,by show bn < _; omega,hC⟩,?_⟩
 subst hx
 show _ ≤ Rows.uptoBulk (.agg [y0.1,y1.1])
 rw [bulk_agg]
 have := bulk_in (d := y1.1) (m := [y0.1,y1.1]) (by simp)
 show C.length + 1 ≤ _
 omega
def IsEnts (w : World) (ao : Option Addr) (len cap : Nat) (Q : List EnE) : Prop := Q.length = len ∧ len ≤ cap ∧ cap ≤ maxLen ∧ RowsAt (EntI w) 2 w ao Q
theorem esz_sum (Q : List EnE) : (Q.map (fun x => x.C.length + 1)).sum = esz Q := by
 unfold esz
 induction Q with
 | nil => rfl
 | cons x t ih => simp only [List.map_cons,List.sum_cons,List.length_cons,csz,ih]; omega
theorem open_ents {H : Type} {enc : TypeId × Value → H} {W : World} {ao : Option Addr} {len cap : Nat} {d : DataW H} {p : List MemPlace}
  (h : DataW.Trod enc Tryz.prog W 0 (fun _ => true) true 23 (.slice ao len cap) d p) : ∃ Q,IsEnts W ao len cap Q ∧ esz Q ≤ Rows.uptoBulk d := by
 haveI : Inhabited EnE := ⟨⟨0,none,0,[]⟩⟩
 obtain ⟨Q,h1,h2,h3,h4,h5⟩ := open_rowsB 2 Tryz.underlying23 cellsEnt (by decide) (EntI W) (fun x => x.C.length + 1) (fun fuel cs x hx => ent_is fuel cs x hx) h
 rw [esz_sum] at h5
 exact ⟨Q,⟨h1,h2,h3,h4⟩,h5⟩
theorem IsEnts.ents {w : World} {ao : Option Addr} {len cap : Nat} {Q : List EnE} (h : IsEnts w ao len cap Q) : EntsAt w ao Q ∧ EIn Q := by
 obtain ⟨hl,_,_,hR⟩ := h
 have key : ∀ x ∈ Q,x.id < 4294967296 ∧ IsComps w x.ao x.C.length x.cap x.C := by
  intro x hx
  obtain ⟨j,hj⟩ := List.getElem?_of_mem hx
  rcases hR with h | ⟨g,of,ha,hc⟩
  ·subst h; simp at hj
  ·obtain ⟨cs,⟨_,h3,h4⟩,_⟩ := hc j x hj
   exact ⟨h3,h4⟩
 refine ⟨⟨?_,fun x hx => (key x hx).2.cs.1⟩,fun x hx => ⟨(key x hx).1,(key x hx).2.cs.2⟩⟩
 rcases hR with h | ⟨g,of,ha,hc⟩
 ·exact .inl h
 ·refine .inr ⟨g,of,ha,fun j x hj => ?_⟩
  obtain ⟨cs,⟨rfl,_⟩,_,h3⟩ := hc j x hj
  exact ⟨h3 0 (by decide),h3 1 (by decide)⟩
structure LeE where
 ao : Option Addr
 cap : Nat
 L : List EnE
def LeI (W : World) (cs : List Value) (x : LeE) : Prop := cs = [.slice x.ao x.L.length x.cap] ∧ IsEnts W x.ao x.L.length x.cap x.L
theorem cellsEntsS : Tryz.prog.cellsOf 23 = 1 := by kernel_rfl
def IsLents (w : World) (ao : Option Addr) (len cap : Nat) (Q : List LeE) : Prop := Q.length = len ∧ len ≤ cap ∧ cap ≤ maxLen ∧ RowsAt (LeI w) 1 w ao Q
theorem IsLents.at {w : World} {ao : Option Addr} {len cap : Nat} {Q : List LeE} (h : IsLents w ao len cap Q) {j : Nat} {x : LeE} (hx : Q[j]? = some x) : ∃ g o,ao = some ⟨g,o,none⟩ ∧ w.cell? ⟨g,o + j,none⟩ = some (.slice x.ao x.L.length x.cap) ∧ IsEnts w x.ao x.L.length x.cap x.L := by
 obtain ⟨_,_,_,h4⟩ := h
 rcases h4 with h | ⟨g,o,ha,hc⟩
 ·subst h; simp at hx
 ·obtain ⟨cs,⟨rfl,h2⟩,_,h3⟩ := hc j x hx
  have := h3 0 (by decide)
  exact ⟨g,o,ha,by simpa using this,h2⟩
theorem sum_le {α : Type} (f : α → Nat) {Q : List α} {x : α} (h : x ∈ Q) : f x ≤ (Q.map f).sum := by
 induction Q with
 | nil => cases h
 | cons a t ih =>
  rw [List.map_cons,List.sum_cons]
  rcases List.mem_cons.1 h with rfl | h
  ·omega
  ·have := ih h; omega
def BlI (cs : List Value) (q : Bool) : Prop := cs = [.bool q]
def IsBls (w : World) (ao : Option Addr) (len cap : Nat) (Q : List Bool) : Prop := Q.length = len ∧ len ≤ cap ∧ cap ≤ maxLen ∧ RowsAt BlI 1 w ao Q
theorem IsBls.at {w : World} {ao : Option Addr} {len cap : Nat} {Q : List Bool} (h : IsBls w ao len cap Q) {k : Nat} {q : Bool} (hk : Q[k]? = some q) : ∃ g o,ao = some ⟨g,o,none⟩ ∧ w.cell? ⟨g,o + k,none⟩ = some (.bool q) := by
 obtain ⟨_,_,_,h4⟩ := h
 rcases h4 with h | ⟨g,o,ha,hc⟩
 ·subst h; simp at hk
 ·obtain ⟨cs,h1,h2,h3⟩ := hc k q hk
  have := h3 0 (by decide)
  rw [h1] at this
  exact ⟨g,o,ha,by simpa using this⟩
theorem ROk.dropN {α : Type} {k : Nat} {R : List (Nat × α)} (h : ROk k R) (n : Nat) : ROk k (R.drop n) where
 k1 := h.k1
 k2 := h.k2
 le := by rw [List.length_drop]; have := h.le; omega
 inc := h.inc.sublist (List.drop_sublist _ _)
 lt := fun e he => h.lt e (List.mem_of_mem_drop he)
theorem SendR.two {c e bud st t st' code : Nat} {ss ss' put : Bool} {bo : Option (Nat × List En)} {N : List En} {P : List Nat} (h : SendR c e bud ss st bo t N code P ss' st' put) (h1 : (ss && decide (t ≤ st)) = false) (h2 : fm 0 N = 0) : (lfit c e bud t bo N = false ∧ code = 3 ∧ P = [] ∧ ss' = true ∧ st' = t ∧ put = false) ∨ (lfit c e bud t bo N = true ∧ code = 0 ∧ P = lfrm c e bud t bo N ∧ ss' = true ∧ st' = t ∧ put = true) := by
 rcases h with ⟨a,b,_⟩ | ⟨_,a,_⟩ | ⟨_,_,h⟩ | ⟨_,_,h⟩
 ·rw [a] at h1; simp at h1; omega
 ·exact absurd h2 a
 ·exact .inl h
 ·exact .inr h
structure LnI (w0 : World) (X : List Thing) (k : Nat) (H : List HeE) (ss : Bool) (st : Nat) : Prop where
 cs : ∀ W,Own w0 W X → ∀ x ∈ H,EntsAt W x.ao x.L
 rk : ROk k (H.map HeE.r)
 ok : HOk H
 tk : ∀ x ∈ H,ss = true ∧ x.t ≤ st
theorem LnI.put {w0 : World} {X : List Thing} {k : Nat} {H : List HeE} {ss : Bool} {st : Nat} (h : LnI w0 X k H ss st) {y : HeE} (hy : HOk [y]) (hs : (ss && decide (y.t ≤ st)) = false) (ht : y.t < 4294967296) : LnI w0 (EntsT y.ao y.cap y.L :: X) k (putH k H y) true y.t ∧ ∀ x ∈ H,x.t < y.t := by
 have hlt : ∀ x ∈ H,x.t < y.t := fun x hx => by
  have h1 := h.tk x hx
  rw [h1.1] at hs
  simp at hs
  omega
 refine ⟨⟨fun W hW x hx => ?_,putH_ok h.rk hlt ht,fun x hx => ?_,fun x hx => ?_⟩,hlt⟩
 ·rcases putH_mem hx with hx | rfl
  ·exact h.cs W hW.tail x hx
  ·exact hW.entsAt
 ·rcases putH_mem hx with hx | rfl
  ·exact h.ok x hx
  ·exact hy _ (by simp)
 ·rcases putH_mem hx with hx | rfl
  ·exact ⟨rfl,Nat.le_of_lt (hlt x hx)⟩
  ·exact ⟨rfl,Nat.le_refl _⟩
theorem LnI.more {w0 : World} {X : List Thing} {k : Nat} {H : List HeE} {ss : Bool} {st : Nat} (h : LnI w0 X k H ss st) (P : Thing) : LnI w0 (P :: X) k H ss st := ⟨fun W hW => h.cs W hW.tail,h.rk,h.ok,h.tk⟩
theorem LnI.up {w0 : World} {X : List Thing} {k : Nat} {H : List HeE} {ss : Bool} {st st' : Nat} (h : LnI w0 X k H ss st) (hs : (ss && decide (st' ≤ st)) = false) : LnI w0 X k H true st' := ⟨h.cs,h.rk,h.ok,fun x hx => by
 have h1 := h.tk x hx
 rw [h1.1] at hs
 simp at hs
 exact ⟨rfl,by omega⟩⟩
theorem LnI.drop {w0 : World} {X : List Thing} {k : Nat} {H : List HeE} {ss : Bool} {st : Nat} (h : LnI w0 X k H ss st) (n : Nat) : LnI w0 X k (H.drop n) ss st := ⟨fun W hW x hx => h.cs W hW x (List.mem_of_mem_drop hx),by rw [List.map_drop]; exact h.rk.dropN n,fun x hx => h.ok x (List.mem_of_mem_drop hx),fun x hx => h.tk x (List.mem_of_mem_drop hx)⟩
end Go.Proofs.YtgifeckbflkkpaaGreatDoor
