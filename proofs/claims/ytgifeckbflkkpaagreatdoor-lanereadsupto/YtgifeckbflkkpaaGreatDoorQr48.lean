/- The document's example of layer 21. -/
import Derived.Test.YtgifeckbflkkpaaGreatDoorQr47
import Derived.Test.YtgifeckbflkkpaaGreatDoorQr42
import Derived.Test.YtgifeckbflkkpaaGreatDoorQr46
import Derived.Test.YtgifeckbflkkpaaGreatDoorQr41
import Derived.Test.YtgifeckbflkkpaaGreatDoorQr01
import Derived.Maps.OwnSet
import Derived.Maps.Range
import Derived.DeepKeys4
namespace Go.Proofs.YtgifeckbflkkpaaGreatDoor
open Go.RowKit
set_option linter.unusedVariables false
set_option maxHeartbeats 16000000
set_option maxRecDepth 100000
theorem SendR.yes {c e bud st t st' code : Nat} {ss ss' put : Bool} {bo : Option (Nat × List En)} {N : List En} {P : List Nat} (h : SendR c e bud ss st bo t N code P ss' st' put) (h1 : (ss && decide (t ≤ st)) = false) (h2 : fm 0 N = 0) (h3 : lfit c e bud t bo N = true) : code = 0 ∧ P = lfrm c e bud t bo N ∧ ss' = true ∧ st' = t ∧ put = true := by
 rcases h with ⟨a,b,_⟩ | ⟨_,a,_⟩ | ⟨_,_,a,_⟩ | ⟨_,_,_,h⟩
 ·rw [a] at h1; simp at h1; omega
 ·exact absurd h2 a
 ·rw [h3] at a; cases a
 ·exact h
theorem putH_ok {k : Nat} {H : List HeE} {x : HeE} (hR : ROk k (H.map HeE.r)) (h : ∀ y ∈ H,y.t < x.t) (ht : x.t < 4294967296) : ROk k ((putH k H x).map HeE.r) where
 k1 := hR.k1
 k2 := hR.k2
 le := by
  have h1 := hR.le
  have h2 := hR.k1
  rw [List.length_map] at h1 ⊢
  unfold putH
  split
  ·rw [List.length_drop,List.length_append]; simp; omega
  ·rw [List.length_append]; simp; omega
 inc := by
  have e : ((H ++ [x]).map HeE.r).Pairwise (fun a b => a.1 < b.1) := by
   rw [List.map_append,List.pairwise_append]
   refine ⟨hR.inc,by simp,fun a ha b hb => ?_⟩
   obtain ⟨y,hy,rfl⟩ := List.mem_map.1 ha
   simp at hb
   subst hb
   exact h y hy
  unfold putH
  split
  ·rw [List.map_drop]; exact e.sublist (List.drop_sublist _ _)
  ·exact e
 lt := fun e he => by
  obtain ⟨y,hy,rfl⟩ := List.mem_map.1 he
  rcases putH_mem hy with hy | rfl
  ·exact hR.lt _ (List.mem_map.2 ⟨y,hy,rfl⟩)
  ·exact ht
theorem lfrm_none {c e bud t : Nat} {N : List En} (h : wfit 1 c e t 0 [] N bud = true) : lfrm c e bud t none N = sfr 1 c e t 0 [] N := by
 show wfr 1 c e t 0 [] N bud = _
 unfold wfr
 rw [if_pos h]
theorem lfrm_some {c e bud t a : Nat} {W N : List En} (h : wfit 2 c e t a W N bud = true) : lfrm c e bud t (some (a,W)) N = sfr 2 c e t a W N := by
 show (if wfit 2 c e t a W N bud = true then _ else _) = _
 rw [if_pos h]
theorem wf1 : wfit 1 3 1 1 0 [] [] 100 = true := by decide +kernel
theorem wf2 : wfit 2 3 1 2 1 [] [] 100 = true := by decide +kernel
theorem wf3 : wfit 2 3 1 3 1 [] [] 100 = true := by decide +kernel
theorem wf4 : wfit 1 3 1 4 0 [] [] 100 = true := by decide +kernel
theorem lsendN (w0 W : World) (htb : Tab w0) (htf : Tabf w0) (b rb st at_ t : Nat) (ss as_ : Bool) (H : List HeE) (X : List Thing) (h : Own w0 W (Cells b (lc 3 1 100 rb ss st as_ at_) 128 :: Ringe rb 2 (H.map HeE.r) :: X)) (hR : ROk 2 (H.map HeE.r)) (hE : ∀ x ∈ H,x.L = []) (hH : HOk H) (hT : ∀ x ∈ H,ss = true ∧ x.t ≤ st) (hs : (ss && decide (t ≤ st)) = false) (ht : t < 4294967296) (ha : at_ < 4294967296) (P : List Nat) (hf : lfit 3 1 100 t (lbo H as_ at_) [] = true) (hP : lfrm 3 1 100 t (lbo H as_ at_) [] = P) (h0 : 0 < P.length) :
  Calls Tryz.prog 23 #[.pointer (some ⟨b,0,none⟩),.int .u32 (t : Int),.slice none 0 0] W fun x w' => ∃ (g cap : Nat) (ya : Option Addr) (yc : Nat),x = .returned (.tuple #[.slice (some ⟨g,0,none⟩) P.length cap,.int .i64 0]) ∧ HOk [⟨t,ya,yc,[]⟩] ∧ Own w0 w' (Cells b (lc 3 1 100 rb true t as_ at_) 128 :: Ringe rb 2 ((putH 2 H ⟨t,ya,yc,[]⟩).map HeE.r) :: Row 5 1 (.slice (some ⟨g,0,none⟩) P.length cap) P.length (vrow P) :: EntsT ya yc [] :: X) := by
 refine (lsend w0 W htb htf X b 3 1 100 rb 2 st at_ ss as_ H hR hH hT (by omega) (by omega) (by omega) ha h t ht none 0 0 [] (fun w' hw => ⟨entsAt_nil w',fun x hx => by rw [hE x hx]; exact ⟨.inl rfl,fun y hy => by cases hy⟩⟩) rfl (by omega) (by omega) (fun x hx => by cases hx) (by unfold esz; simp [csz])).mono ?_
 rintro x w' ⟨v,code,P',ss',st',put,y,rfl,hS,hyt,hyL,hyo,hO⟩
 obtain ⟨rfl,hP',rfl,rfl,rfl⟩ := hS.yes hs rfl hf
 have hP2 : P' = P := by rw [hP']; exact hP
 subst hP2
 obtain ⟨yt,ya,yc,yL⟩ := y
 simp only at hyt hyL
 subst hyt
 have hyn : yL = [] := by
  have e : evs ([] : List EnE) = [] := rfl
  rw [e] at hyL
  unfold evs at hyL
  exact List.map_eq_nil_iff.1 hyL
 subst hyn
 obtain ⟨g,cap,rfl,_⟩ := row_shape hO.row h0
 exact ⟨g,cap,ya,yc,rfl,hyo,hO.perm (perm_lc _ _ _ _)⟩
theorem rt1 : Right 1 3 1 1 0 := ⟨by decide,by decide,by decide,by decide,by decide,by decide,by decide,by decide,by decide⟩
theorem rt2 : Right 2 3 1 2 1 := ⟨by decide,by decide,by decide,by decide,by decide,by decide,by decide,by decide,by decide⟩
theorem rt3 : Right 2 3 1 3 1 := ⟨by decide,by decide,by decide,by decide,by decide,by decide,by decide,by decide,by decide⟩
theorem rt4 : Right 1 3 1 4 0 := ⟨by decide,by decide,by decide,by decide,by decide,by decide,by decide,by decide,by decide⟩
theorem pk_le (k c e t s : Nat) (W N : List En) (h : wfit k c e t s W N 100 = true) : (pack (headB k c e t s ++ contB k W N)).length ≤ 4096 := by
 have h2 := (of_decide_eq_true h).2
 unfold sfr frm at h2
 rw [List.length_append] at h2
 omega
theorem sfr_byte (k c e t s : Nat) (W N : List En) : ∀ x ∈ sfr k c e t s W N,x < 256 := frm_byte _ (pack_byte _)
theorem sfr_pos (k c e t s : Nat) (W N : List En) : 0 < (sfr k c e t s W N).length := by
 unfold sfr frm
 rw [List.length_append]
 have h4 : ∀ x,(le4 x).length = 4 := fun _ => rfl
 rw [h4]; omega
theorem AckR.yes {as_ as' : Bool} {at_ at' t code n : Nat} {H : List HeE} {x : HeE} (h : AckR as_ at_ H t code as' at' n) (h1 : (as_ && decide (t ≤ at_)) = false) (h2 : hget H t = some x) : code = 0 ∧ as' = true ∧ at' = t ∧ n = below t (H.map HeE.r) := by
 rcases h with ⟨a,b,_⟩ | ⟨_,a,_⟩ | ⟨_,_,h⟩
 ·rw [a] at h1; simp at h1; omega
 ·rw [h2] at a; cases a
 ·exact h
theorem HOk.two {x y : HeE} (hx : HOk [x]) (hy : HOk [y]) : HOk [x,y] := fun z hz => by
 simp only [List.mem_cons,List.not_mem_nil,or_false] at hz
 rcases hz with rfl | rfl
 ·exact hx _ (by simp)
 ·exact hy _ (by simp)
theorem frame_in {w : World} {g cap : Nat} {P : List Nat} {w0 : World} {l : List Thing} (h : Own w0 w (Row 5 1 (.slice (some ⟨g,0,none⟩) P.length cap) P.length (vrow P) :: l)) (hb : ∀ x ∈ P,x < 256) : In w (some ⟨g,0,none⟩) P.length cap P := In.of_row h.row rfl hb
theorem awake21 (w : World) (htb : Tab w) (htf : Tabf w) : Calls Tryz.prog 19 #[] w fun x w' => x = .returned (.bool true) ∧ Fr Nobody w w' := by
 have HN : Hid (Calls _ _ _ _ _) := lnew w w [] (Own.start w) 3 1 (by decide) (by decide) 2 100 (by decide) (by decide) (by decide) (by decide)
 have HT : Hid (Tab w ∧ Tabf w) := ⟨htb,htf⟩
 obtain ⟨Pa,hPa⟩ : ∃ P,P = sfr 1 3 1 1 0 [] [] := ⟨_,rfl⟩
 obtain ⟨Pb,hPb⟩ : ∃ P,P = sfr 2 3 1 2 1 [] [] := ⟨_,rfl⟩
 obtain ⟨Pc,hPc⟩ : ∃ P,P = sfr 2 3 1 3 1 [] [] := ⟨_,rfl⟩
 obtain ⟨Pd,hPd⟩ : ∃ P,P = sfr 1 3 1 4 0 [] [] := ⟨_,rfl⟩
 have HP : Hid (Pa = sfr 1 3 1 1 0 [] [] ∧ Pb = sfr 2 3 1 2 1 [] [] ∧ Pc = sfr 2 3 1 3 1 [] [] ∧ Pd = sfr 1 3 1 4 0 [] []) := ⟨hPa,hPb,hPc,hPd⟩
 have HL : Hid (0 < Pa.length ∧ 0 < Pb.length ∧ 0 < Pc.length ∧ 0 < Pd.length) := ⟨by rw [hPa]; exact sfr_pos _ _ _ _ _ _ _,by rw [hPb]; exact sfr_pos _ _ _ _ _ _ _,by rw [hPc]; exact sfr_pos _ _ _ _ _ _ _,by rw [hPd]; exact sfr_pos _ _ _ _ _ _ _⟩
 clear htb htf hPa hPb hPc hPd
 go_enter Tryz.func19,Tryz.ntmps19
 go_wp2_with fail
 refine HN.out.mono ?_
 rintro x w1 ⟨b,rb,rfl,h1⟩
 clear HN
 have HS1 : Hid (Calls _ _ _ _ _) := lsendN w w1 HT.out.1 HT.out.2 b rb 0 0 1 false false [] [] h1 (ROk.nil (by decide) (by decide)) (fun x hx => by cases hx) (fun x hx => by cases hx) (fun x hx => by cases hx) rfl (by decide) (by decide) Pa (by show lfit 3 1 100 1 none [] = true; unfold lfit; simp [wf1]) ((lfrm_none wf1).trans HP.out.1.symm) HL.out.1
 clear h1
 go_wp2_with fail
 refine HS1.out.mono ?_
 rintro x w2 ⟨ga,ca,y1a,y1c,rfl,ho1,h2⟩
 clear HS1
 have e1 : putH 2 [] ⟨1,y1a,y1c,[]⟩ = [⟨1,y1a,y1c,[]⟩] := rfl
 rw [e1] at h2
 have hR1 : ROk 2 (([⟨1,y1a,y1c,[]⟩] : List HeE).map HeE.r) := by rw [← e1]; exact putH_ok (ROk.nil (by decide) (by decide)) (fun x hx => by cases hx) (by show (1 : Nat) < _; decide)
 have HA1 : Hid (Calls _ _ _ _ _) := lack w w2 _ b 3 1 100 rb 2 1 0 true false [⟨1,y1a,y1c,[]⟩] hR1 h2 1 (by decide)
 have HR1 : Hid (ROk 2 (([⟨1,y1a,y1c,[]⟩] : List HeE).map HeE.r) ∧ HOk [⟨1,y1a,y1c,[]⟩]) := ⟨hR1,ho1⟩
 clear h2 hR1 ho1 e1
 go_wp2_with fail
 refine HA1.out.mono ?_
 rintro x w3 ⟨code,as',at',n,rfl,hA,h3⟩
 obtain ⟨rfl,rfl,rfl,rfl⟩ := hA.yes (x := ⟨1,y1a,y1c,[]⟩) rfl rfl
 have h3 : Own w w3 (Cells b (lc 3 1 100 rb true 1 true 1) 128 :: Ringe rb 2 (([⟨1,y1a,y1c,[]⟩] : List HeE).map HeE.r) :: Row 5 1 (.slice (some ⟨ga,0,none⟩) Pa.length ca) Pa.length (vrow Pa) :: EntsT y1a y1c [] :: []) := h3
 have HS2 : Hid (Calls _ _ _ _ _) := lsendN w w3 HT.out.1 HT.out.2 b rb 1 1 2 true true [⟨1,y1a,y1c,[]⟩] _ h3 HR1.out.1 (fun x hx => by rw [List.mem_singleton.1 hx]) HR1.out.2 (fun x hx => by rw [List.mem_singleton.1 hx]; exact ⟨rfl,Nat.le_refl _⟩) rfl (by decide) (by decide) Pb (by show lfit 3 1 100 2 (some (1,[])) [] = true; unfold lfit; simp [wf2]) ((lfrm_some (a := 1) (W := []) wf2).trans HP.out.2.1.symm) HL.out.2.1
 clear h3 HA1 hA
 go_wp2_with fail
 refine HS2.out.mono ?_
 rintro x w4 ⟨gb,cb,y2a,y2c,rfl,ho2,h4⟩
 clear HS2
 have e2 : putH 2 [⟨1,y1a,y1c,[]⟩] ⟨2,y2a,y2c,[]⟩ = [⟨1,y1a,y1c,[]⟩,⟨2,y2a,y2c,[]⟩] := rfl
 rw [e2] at h4
 have hR2 : ROk 2 (([⟨1,y1a,y1c,[]⟩,⟨2,y2a,y2c,[]⟩] : List HeE).map HeE.r) := by rw [← e2]; exact putH_ok HR1.out.1 (fun x hx => by rw [List.mem_singleton.1 hx]; show (1 : Nat) < 2; decide) (by show (2 : Nat) < _; decide)
 have HS3 : Hid (Calls _ _ _ _ _) := lsendN w w4 HT.out.1 HT.out.2 b rb 2 1 3 true true [⟨1,y1a,y1c,[]⟩,⟨2,y2a,y2c,[]⟩] _ h4 hR2 (fun x hx => by simp only [List.mem_cons,List.not_mem_nil,or_false] at hx; rcases hx with rfl | rfl <;> rfl) (HR1.out.2.two ho2) (fun x hx => by simp only [List.mem_cons,List.not_mem_nil,or_false] at hx; rcases hx with rfl | rfl <;> exact ⟨rfl,by simp⟩) rfl (by decide) (by decide) Pc (by show lfit 3 1 100 3 (some (1,[])) [] = true; unfold lfit; simp [wf3]) ((lfrm_some (a := 1) (W := []) wf3).trans HP.out.2.2.1.symm) HL.out.2.2.1
 have HR2 : Hid (ROk 2 (([⟨1,y1a,y1c,[]⟩,⟨2,y2a,y2c,[]⟩] : List HeE).map HeE.r) ∧ HOk [⟨2,y2a,y2c,[]⟩]) := ⟨hR2,ho2⟩
 clear h4 e2 hR2 ho2
 go_wp2_with fail
 refine HS3.out.mono ?_
 rintro x w5 ⟨gc,cc,y3a,y3c,rfl,ho3,h5⟩
 clear HS3
 have e3 : putH 2 [⟨1,y1a,y1c,[]⟩,⟨2,y2a,y2c,[]⟩] ⟨3,y3a,y3c,[]⟩ = [⟨2,y2a,y2c,[]⟩,⟨3,y3a,y3c,[]⟩] := rfl
 rw [e3] at h5
 have hR3 : ROk 2 (([⟨2,y2a,y2c,[]⟩,⟨3,y3a,y3c,[]⟩] : List HeE).map HeE.r) := by rw [← e3]; exact putH_ok HR2.out.1 (fun x hx => by simp only [List.mem_cons,List.not_mem_nil,or_false] at hx; rcases hx with rfl | rfl <;> simp) (by show (3 : Nat) < _; decide)
 have HBA : Hid (Calls _ _ _ _ _) := lBase w w5 _ b 3 1 100 rb 2 3 1 true true [⟨2,y2a,y2c,[]⟩,⟨3,y3a,y3c,[]⟩] hR3 h5
 have HR3 : Hid (ROk 2 (([⟨2,y2a,y2c,[]⟩,⟨3,y3a,y3c,[]⟩] : List HeE).map HeE.r) ∧ HOk [⟨2,y2a,y2c,[]⟩,⟨3,y3a,y3c,[]⟩]) := ⟨hR3,HR2.out.2.two ho3⟩
 have hlb : lbo [⟨2,y2a,y2c,[]⟩,⟨3,y3a,y3c,[]⟩] true 1 = none := rfl
 rw [hlb] at HBA
 clear h5 e3 hR3 ho3 hlb
 go_wp2_with fail
 refine HBA.out.mono ?_
 rintro x w6 ⟨rfl,h6⟩
 clear HBA
 have HS4 : Hid (Calls _ _ _ _ _) := lsendN w w6 HT.out.1 HT.out.2 b rb 3 1 4 true true [⟨2,y2a,y2c,[]⟩,⟨3,y3a,y3c,[]⟩] _ h6 HR3.out.1 (fun x hx => by simp only [List.mem_cons,List.not_mem_nil,or_false] at hx; rcases hx with rfl | rfl <;> rfl) HR3.out.2 (fun x hx => by simp only [List.mem_cons,List.not_mem_nil,or_false] at hx; rcases hx with rfl | rfl <;> exact ⟨rfl,by simp⟩) rfl (by decide) (by decide) Pd (by show lfit 3 1 100 4 none [] = true; unfold lfit; simp [wf4]) ((lfrm_none wf4).trans HP.out.2.2.2.symm) HL.out.2.2.2
 clear h6
 simp only [Option.isSome_none]
 go_wp2_with fail
 refine HS4.out.mono ?_
 rintro x w7 ⟨gd,cd,y4a,y4c,rfl,ho4,h7⟩
 clear HS4 ho4
 have HKA : Hid (Calls _ _ _ _ _) := kind_ok w w7 _ h7 (some ⟨ga,0,none⟩) Pa.length ca Pa 1 3 1 1 0 (.inl rfl) rt1 _ _ rfl HP.out.1 (pk_le _ _ _ _ _ _ _ wf1) (frame_in (Own.lift (l := [_,_,_,_,_,_,_,_]) h7) (by rw [HP.out.1]; exact sfr_byte _ _ _ _ _ _ _))
 clear h7
 go_wp2_with fail
 refine HKA.out.mono ?_
 rintro x w8 ⟨rfl,h8⟩
 clear HKA
 have HKB : Hid (Calls _ _ _ _ _) := kind_ok w w8 _ h8 (some ⟨gb,0,none⟩) Pb.length cb Pb 2 3 1 2 1 (.inr rfl) rt2 _ _ rfl HP.out.2.1 (pk_le _ _ _ _ _ _ _ wf2) (frame_in (Own.lift (l := [_,_,_,_,_,_]) h8) (by rw [HP.out.2.1]; exact sfr_byte _ _ _ _ _ _ _))
 clear h8
 go_wp2_with fail
 refine HKB.out.mono ?_
 rintro x w9 ⟨rfl,h9⟩
 clear HKB
 have HKC : Hid (Calls _ _ _ _ _) := kind_ok w w9 _ h9 (some ⟨gc,0,none⟩) Pc.length cc Pc 2 3 1 3 1 (.inr rfl) rt3 _ _ rfl HP.out.2.2.1 (pk_le _ _ _ _ _ _ _ wf3) (frame_in (Own.lift (l := [_,_,_,_]) h9) (by rw [HP.out.2.2.1]; exact sfr_byte _ _ _ _ _ _ _))
 clear h9
 go_wp2_with fail
 refine HKC.out.mono ?_
 rintro x w10 ⟨rfl,h10⟩
 clear HKC
 have HKD : Hid (Calls _ _ _ _ _) := kind_ok w w10 _ h10 (some ⟨gd,0,none⟩) Pd.length cd Pd 1 3 1 4 0 (.inl rfl) rt4 _ _ rfl HP.out.2.2.2 (pk_le _ _ _ _ _ _ _ wf4) (frame_in (Own.lift (l := [_,_]) h10) (by rw [HP.out.2.2.2]; exact sfr_byte _ _ _ _ _ _ _))
 clear h10
 go_wp2_with fail
 refine HKD.out.mono ?_
 rintro x w11 ⟨rfl,h11⟩
 have HF : Hid (Fr Nobody w w11) := h11.fr
 clear HKD h11
 go_wp2
 go_ret
 exact ⟨rfl,HF.out⟩
def ROp (w0 : World) (l : List Thing) (b : Nat) (N : List EnE) (v2 v3 v8 v9 v10 v12 : Value) (wc : World) : Prop := ∃ (ao : Option Addr) (cap : Nat) (M : List EnE) (sv : Value),v12 = .slice ao M.length cap ∧ evs M = evs N ∧ Own w0 wc (EntsT ao cap M :: Cells b #[sv,.bool false] 95 :: l)
theorem ropen20 (w0 w : World) (htf : Tabf w0) (l : List Thing) (h : Own w0 w l) (ap : Option Addr) (n cp : Nat) (P : List Nat) (hn : P.length = n) (aw : Option Addr) (nw cw : Nat) (Wl N : List EnE) (hin : ∀ w',Own w0 w' l → In w' ap n cp P) (hQ : ∀ w',Own w0 w' l → EntsAt w' aw Wl) (hnw : Wl.length = nw) (hIW : EIn Wl) (hIN : EIn N) (hzW : esz Wl ≤ 400) (hzN : esz N ≤ 400) (k c e tk s : Nat) (hk : k = 1 ∨ k = 2) (hI : HIn k c e tk s) (hS : SealR k c e tk s (evs Wl) (evs N) 0 P) :
  Calls Tryz.prog 15 #[.slice ap n cp,.slice aw nw cw] w fun x w' => ∃ (ao : Option Addr) (cap : Nat) (M : List EnE),x = .returned (.tuple #[.agg #[.int .u8 (k : Int),.int .u8 (c : Int),.int .u32 (e : Int),.int .u32 (tk : Int),.int .u32 (s : Int)],.slice ao M.length cap,.int .i64 0]) ∧ evs M = evs N ∧ Own w0 w' (EntsT ao cap M :: l) := by
 obtain ⟨hR,hcc,hP,hPl⟩ := hS.2.2.1 rfl
 obtain ⟨L,hL⟩ : ∃ L,L = headB k c e tk s ++ contB k (evs Wl) (evs N) := ⟨_,rfl⟩
 rw [← hL] at hP
 obtain ⟨d,hd⟩ : ∃ d,d = (pack L).length := ⟨_,rfl⟩
 have hn4 : n = d + 4 := by
  have := congrArg List.length hP
  unfold frm at this
  rw [List.length_append,← hd,hn] at this
  have h4 : (le4 (crc (pack L))).length = 4 := rfl
  omega
 subst hn4
 have hd4 : d ≤ 4096 := by omega
 have hfo := frm_opens (pack L) d hd.symm
 rw [← hP] at hfo
 have hbl : (bitsB (pack L)).length ≤ 100000 := by rw [length_bitsB]; omega
 have hb0 := bitsB_pack L
 obtain ⟨z0,hz0⟩ : ∃ z0,z0 = List.replicate (8 * nb L.length - L.length) false := ⟨_,rfl⟩
 rw [← hz0] at hb0
 have hdr : (bitsB (pack L)).drop (headB k c e tk s).length = contB k (evs Wl) (evs N) ++ z0 := by
  have h1 : (bitsB (pack L)).drop 0 = headB k c e tk s ++ (contB k (evs Wl) (evs N) ++ z0) := by rw [List.drop_zero,hb0,hL,List.append_assoc]
  have h2 := drop_next h1 rfl
  rwa [Nat.zero_add] at h2
 have hth : (headB k c e tk s).length ≤ 8 * (pack L).length := by
  have h1 := congrArg List.length hb0
  have h2 : L.length = (headB k c e tk s).length + (contB k (evs Wl) (evs N)).length := by rw [hL,List.length_append]
  rw [length_bitsB,List.length_append] at h1
  omega
 have HH : Hid (∀ W b m,SrcO w0 W b (bitsB (pack L)) false m → Calls Tryz.prog 43 #[.pointer (some ⟨b,0,none⟩)] W fun x w' => x = .returned (.agg (hvs k c e tk s)) ∧ SrcO w0 w' b ((bitsB (pack L)).drop (headB k c e tk s).length) false m) := fun W b m hW => by
  have e1 : bitsB (pack L) = headB k c e tk s ++ (contB k (evs Wl) (evs N) ++ z0) := by rw [hb0,hL,List.append_assoc]
  rw [hdr]
  rcases hk with rfl | rfl
  ·exact shead1 w0 W m b c e tk s hR _ _ e1 hbl hW
  ·exact shead2 w0 W m b c e tk s hR _ _ e1 hbl hW
 have HPK : Hid (∀ W X,Own w0 W (X :: l) → Calls Tryz.prog 13 #[.slice ap (d + 4) cp] W fun x w' => x = .returned (.tuple #[.agg (hvs k c e tk s),.int .i64 0]) ∧ Own w0 w' (X :: l)) := fun W X hW => rpeek_ok w0 W _ hW ap (d + 4) cp P k c e tk s hk hR L _ hL hP (by omega) (hin W hW.tail)
 have HOP : Hid (∀ W,Own w0 W l → Calls Tryz.prog 35 #[.slice ap (d + 4) cp] W fun x w' => ∃ v,x = .returned (.tuple #[v,.int .i64 0]) ∧ w'.ownsRow W.heap.size 5 1 v d (vrow (pack L)) ∧ Fr Nobody W w') := fun W hW => by
  have hop := ropen_ok W ap cp d P (hin W hW) (by omega) hfo.1
  rw [hfo.2] at hop
  refine hop.mono ?_
  rintro x w' ⟨v,rfl,hrow,hf⟩
  exact ⟨v,rfl,hrow,hf⟩
 have HD : Hid (d = (pack L).length ∧ d ≤ 4096) := ⟨hd,hd4⟩
 have HKK : Hid (k = 1 ∨ k = 2) := hk
 have HX : Hid ((bitsB (pack L)).length ≤ 100000 ∧ (headB k c e tk s).length ≤ 8 * (pack L).length ∧ (bitsB (pack L)).drop (headB k c e tk s).length = contB k (evs Wl) (evs N) ++ z0 ∧ ccode k (evs Wl) (evs N) = 0) := ⟨hbl,hth,hdr,hcc⟩
 have HW : Hid ((∀ w',Own w0 w' l → EntsAt w' aw Wl) ∧ Wl.length = nw ∧ EIn Wl ∧ EIn N ∧ esz Wl ≤ 400 ∧ esz N ≤ 400) := ⟨hQ,hnw,hIW,hIN,hzW,hzN⟩
 have HIN : Hid (∀ w',Own w0 w' l → In w' ap (d + 4) cp P) := hin
 have HSE : Hid (HIn k c e tk s ∧ SealR k c e tk s (evs Wl) (evs N) 0 P ∧ P.length = d + 4) := ⟨hI,hS,hn⟩
 obtain ⟨th,hthe⟩ : ∃ th,th = (headB k c e tk s).length := ⟨_,rfl⟩
 rw [← hthe] at HX HH
 have h1 := h.allocC #[.int .u8 0,.int .u8 0,.int .u32 0,.int .u32 0,.int .u32 0] 29
 unfold hvs at HPK HH
 have HPC : Hid (Calls _ _ _ _ _) := HPK.out _ _ h1
 clear h h1 hR hcc hP hPl hS hL hd hd4 hfo hbl hb0 hz0 hdr hth hin hQ hnw hIW hIN hzW hzN hk hI hthe HPK hn
 go_enter Tryz.func15,Tryz.ntmps15
 go_wp2_with fail
 refine HPC.out.mono ?_
 rintro x w1 ⟨rfl,h2⟩
 generalize w.heap.size = b4 at *
 have h3 := h2.allocC #[.int .u8 (k : Int),.int .u8 (c : Int),.int .u32 (e : Int),.int .u32 (tk : Int),.int .u32 (s : Int)] 29
 have HOC : Hid (Calls _ _ _ _ _) := HOP.out _ h3.tail.tail
 have H3 : Hid (Own w0 _ _) := h3
 clear h2 h3 HPC HOP
 go_wp2_with fail
 refine HOC.out.mono ?_
 rintro x w2 ⟨v,rfl,hrow,hf2⟩
 generalize w1.heap.size = b7 at *
 have h4 := H3.out.quiet hf2
 obtain ⟨a2,c2,rfl,hba⟩ := row_bytes hrow HD.out.1.symm
 have HBI : Hid (Calls _ _ _ _ _) := rbits_any w2 a2 c2 d (pack L) hba HD.out.1.symm (pack_byte _) (by have := HD.out.2; omega)
 have H4 : Hid (Own w0 w2 _) := h4
 clear HOC H3 hf2 h4 hrow hba
 go_wp2_with fail
 refine HBI.out.mono ?_
 rintro x w3 ⟨vb,rfl,hbo,hf3⟩
 have h5 := H4.out.quiet hf3
 have hbs := hbo.bs
 obtain ⟨a3,c3,rfl⟩ := hbs.shape
 have S3 : SrcO w0 (w3.alloc (.cells #[.slice a3 (bitsB (pack L)).length c3,.bool false] 95)) w3.heap.size (bitsB (pack L)) false _ := ⟨_,h5.allocC _ _,hbs.quiet ((Fr.refl _ _).alloc _)⟩
 have HHC : Hid (Calls _ _ _ _ _) := HH.out _ _ _ S3
 clear HBI H4 hf3 h5 hbo hbs S3 HH
 obtain ⟨lz,hlz⟩ : ∃ lz,lz = (bitsB (pack L)).length := ⟨_,rfl⟩
 rw [← hlz] at HHC ⊢
 clear hlz
 go_wp2_with fail
 refine HHC.out.mono ?_
 rintro x w4 ⟨rfl,S4⟩
 generalize w3.heap.size = b at *
 have q0 := (S4.own).cell 0
 simp at q0
 have H4 : Hid (SrcO w0 w4 b _ false _) := S4
 clear S4 HHC
 go_upto_block 0 with (fail)
 go_cut [2,3,8,9,10,12] from 13 (ROp w0 (Cells b7 #[.int .u8 (k : Int),.int .u8 (c : Int),.int .u32 (e : Int),.int .u32 (tk : Int),.int .u32 (s : Int)] 29 :: Cells b4 #[.int .u8 0,.int .u8 0,.int .u32 0,.int .u32 0,.int .u32 0] 29 :: l) b N)
 case first =>
  rcases HKK.out with hk | hk
  ·subst hk
   have hc := HX.out.2.2.2
   have hb := HX.out.2.2.1
   rw [show ccode 1 (evs Wl) (evs N) = fm 0 (evs N) from rfl] at hc
   rw [show contB 1 (evs Wl) (evs N) = var (evs N).length ++ entsB 0 (evs N) from rfl,List.append_assoc] at hb
   have HEN : Hid (Calls _ _ _ _ _) := sents w0 w4 _ b (pack L) th (evs N) z0 HX.out.1 HX.out.2.1 H4.out (Snap.of hc).up (fm_each hc) (evs_ids HW.out.2.2.2.1) (by rw [evs_len]; have := HW.out.2.2.2.2.2; unfold esz at this; omega) hb
   clear H4 hc hb
   go_wp2_with fail
   refine HEN.out.mono ?_
   rintro x w5 ⟨ao,cap,rfl,M,hMl,hM,h5⟩
   rw [← hMl]
   have H5 : Hid (SrcO w0 w5 b _ false _) := h5
   have HM : Hid (evs M = evs N) := hM
   clear h5 hM hMl HEN
   generalize hml : M.length = ml at *
   have HML : Hid (M.length = ml) := hml
   clear hml
   go_wp2
   go_meet
   case rel =>
    obtain ⟨sv,hO,-⟩ := H5.out
    exact ⟨ao,cap,M,sv,by rw [HML.out],HM.out,hO.two⟩
  ·subst hk
   have hc := HX.out.2.2.2
   have hb := HX.out.2.2.1
   rw [show ccode 2 (evs Wl) (evs N) = dcode (evs Wl) (evs N) from rfl] at hc
   rw [show contB 2 (evs Wl) (evs N) = dltB (evs Wl) (btw (evs Wl) (evs N)) from rfl] at hb
   have HNN : Hid ((bitsB (pack L)).drop th = dltB (evs Wl) (btw (evs Wl) (evs N)) ++ z0 ∧ (bitsB (pack L)).length ≤ 100000 ∧ th ≤ 8 * (pack L).length ∧ fm 0 (evs Wl) = 0 ∧ fm 0 (evs N) = 0 ∧ EIn Wl ∧ EIn N ∧ esz Wl ≤ 400 ∧ esz N ≤ 400) := ⟨hb,HX.out.1,HX.out.2.1,(dcode_0 hc).1,(dcode_0 hc).2,HW.out.2.2.1,HW.out.2.2.2.1,HW.out.2.2.2.2.1,HW.out.2.2.2.2.2⟩
   clear hc hb
   go_upto_if 56 with (fail)
   rw [inBlock_then]
   refine ro_step w0 w4 (Cells b4 #[.int .u8 0,.int .u8 0,.int .u32 0,.int .u32 0,.int .u32 0] 29 :: l) (.slice ap (d + 4) cp) (.pointer (some ⟨b4,0,none⟩)) (.pointer (some ⟨b7,0,none⟩)) (Cells b7 #[.int .u8 ((2 : Nat) : Int),.int .u8 (c : Int),.int .u32 (e : Int),.int .u32 (tk : Int),.int .u32 (s : Int)] 29) aw nw cw b (pack L) th Wl N z0 HNN ⟨fun w' hw => HW.out.1 w' hw.tail.tail,HW.out.2.1⟩ H4.out _ _ _ ?hm (fun _ _ h => h) _ ?ha
   case ha => rfl
   case hm =>
    intro a' w5 hm
    obtain ⟨ao,cap,M,sv,hact,hM,hO⟩ := hm
    obtain ⟨u5,hu⟩ : ∃ u5 : Nat → Value,∀ k,gQ a' k = u5 k := ⟨_,fun _ => rfl⟩
    simp only [hu] at hact
    clear hu
    subst hact
    have HO : Hid (evs M = evs N ∧ Own w0 w5 _) := ⟨hM,hO⟩
    clear hM hO H4
    generalize hml : M.length = ml at *
    have HML : Hid (M.length = ml) := hml
    clear hml
    go_wp2
    go_meet
    case rel => exact ⟨ao,cap,M,sv,by rw [HML.out],HO.out.1,HO.out.2⟩
 case rest =>
  obtain ⟨ao,cap,M,sv,rfl,hM,hO⟩ := hcut
  have q1 := hO.two.cell 1
  have h2 := hO.three
  have r0 := h2.cell 0
  have r1 := h2.cell 1
  have r2 := h2.cell 2
  have r3 := h2.cell 3
  have r4 := h2.cell 4
  simp at q1 r0 r1 r2 r3 r4
  have HSL : Hid (Calls _ _ _ _ _) := rseal20 w0 wc _ hO k c e tk s HSE.out.1 aw ao nw M.length cw cap Wl M (fun w' hw => ⟨HW.out.1 w' hw.tail.tail.tail.tail,hw.entsAt⟩) HW.out.2.1 rfl HW.out.2.2.1 (EIn.of_evs hM HW.out.2.2.2.1) HW.out.2.2.2.2.1 (by rw [esz_evs hM]; exact HW.out.2.2.2.2.2)
  rw [hM] at HSL
  unfold hvs at HSL
  have HM : Hid (evs M = evs N) := hM
  obtain ⟨ml,hml⟩ : ∃ ml,ml = M.length := ⟨_,rfl⟩
  rw [← hml] at HSL ⊢
  have HML : Hid (ml = M.length) := hml
  clear hO h2 hM H4 q0 hml
  go_wp2_with fail
  refine HSL.out.mono ?_
  rintro x w5 ⟨v5,code5,P5,rfl,hS5,h5⟩
  obtain ⟨rfl,rfl⟩ := sealR_one HSE.out.2.1 hS5
  obtain ⟨a5,c5,rfl⟩ := row_any h5.row
  have HSM : Hid (Calls _ _ _ _ _) := same_fr w5 _ (.slice ap (d + 4) cp) P (Src.of_row h5.row) (HIN.out w5 h5.tail.tail.tail.tail.tail).src
  have H5 : Hid (Own w0 w5 (Cells b4 #[.int .u8 0,.int .u8 0,.int .u32 0,.int .u32 0,.int .u32 0] 29 :: Cells b7 #[.int .u8 (k : Int),.int .u8 (c : Int),.int .u32 (e : Int),.int .u32 (tk : Int),.int .u32 (s : Int)] 29 :: EntsT ao cap M :: l)) := h5.sel 5 [4,3,1] (by decide)
  clear HSL hS5 h5 r0 r1 r2 r3 r4 q1
  generalize P.length = pl at *
  go_wp2_with fail
  refine HSM.out.mono ?_
  rintro x w6 ⟨rfl,hf6⟩
  have h6 := H5.out.quiet hf6
  have j0 := h6.two.cell 0
  have j1 := h6.two.cell 1
  have j2 := h6.two.cell 2
  have j3 := h6.two.cell 3
  have j4 := h6.two.cell 4
  have z0 := h6.froz 0
  have z1 := h6.froz 1
  have z2 := h6.froz 2
  have z3 := h6.froz 3
  have z4 := h6.froz 4
  have x0 := h6.cell 0
  have x1 := h6.cell 1
  have x2 := h6.cell 2
  have x3 := h6.cell 3
  have x4 := h6.cell 4
  simp at j0 j1 j2 j3 j4 x0 x1 x2 x3 x4
  have h8 := ((((h6.setC 0 (.int .u8 (k : Int))).setC 1 (.int .u8 (c : Int))).setC 2 (.int .u32 (e : Int))).setC 3 (.int .u32 (tk : Int))).setC 4 (.int .u32 (s : Int))
  simp only [List.setIfInBounds_toArray,List.set_cons_zero,List.set_cons_succ] at h8
  have H8 : Hid (Own w0 _ _) := h8
  clear H5 hf6 h6 h8 HSM
  go_wp2
  (try simp only [Exit.inBlock,Exit.then])
  refine bodyPost_ret (v := .tuple #[.agg #[.int .u8 (k : Int),.int .u8 (c : Int),.int .u32 (e : Int),.int .u32 (tk : Int),.int .u32 (s : Int)],.slice ao ml cap,.int .i64 0]) ?_ rfl ⟨ao,cap,M,by rw [HML.out],HM.out,H8.out.tail.tail⟩
  rw [results_cell_tmp_tmp rfl]
  have r0 := H8.out.cell 0
  have r1 := H8.out.cell 1
  have r2 := H8.out.cell 2
  have r3 := H8.out.cell 3
  have r4 := H8.out.cell 4
  simp at r0 r1 r2 r3 r4
  go_simp
end Go.Proofs.YtgifeckbflkkpaaGreatDoor
namespace Go.Proofs.YtgifeckbflkkpaaGreatDoor
open Go.ChangeShapes Go.WideShapes Go.ChangeAt Go.RowKit Go.Deep
set_option linter.unusedVariables false
set_option maxHeartbeats 16000000
set_option maxRecDepth 100000
structure LeE where
 ao : Option Addr
 cap : Nat
 L : List EnE
def LeI (W : World) (cs : List Value) (x : LeE) : Prop := cs = [.slice x.ao x.L.length x.cap] ∧ IsEnts W x.ao x.L.length x.cap x.L
theorem cellsEntsS : Tryz.prog.cellsOf 23 = 1 := by kernel_rfl
def IsLents (w : World) (ao : Option Addr) (len cap : Nat) (Q : List LeE) : Prop := Q.length = len ∧ len ≤ cap ∧ cap ≤ maxLen ∧ RowsAt (LeI w) 1 w ao Q
theorem open_lents {H : Type} {enc : TypeId × Value → H} {W : World} {ao : Option Addr} {len cap : Nat} {d : DataW H} {p : List MemPlace}
  (h : DataW.Trod enc Tryz.prog W 0 (fun _ => true) true 74 (.slice ao len cap) d p) : ∃ Q,IsLents W ao len cap Q ∧ (Q.map (fun x => esz x.L)).sum ≤ Rows.uptoBulk d := by
 haveI : Inhabited LeE := ⟨⟨none,0,[]⟩⟩
 obtain ⟨Q,h1,h2,h3,h4,h5⟩ := open_rowsB 1 Tryz.underlying74 cellsEntsS (by decide) (LeI W) (fun x => esz x.L) (fun fuel cs x hx => by
  obtain ⟨a,l,c,rfl⟩ : ∃ a l c,cs = [.slice a l c] := by
   rcases open_slice Tryz.underlying23 hx with ⟨hc,_⟩ | ⟨a,l,c,m,n,D,Pl,hc,_⟩
   ·exact ⟨_,_,_,hc⟩
   ·exact ⟨_,_,_,hc⟩
  obtain ⟨d0,p0⟩ := x
  obtain ⟨M,hM,hz⟩ := open_ents (d := d0) (p := p0) ⟨fuel,hx⟩
  have hl := hM.1
  subst hl
  exact ⟨⟨a,c,M⟩,⟨rfl,hM⟩,hz⟩) h
 exact ⟨Q,⟨h1,h2,h3,h4⟩,h5⟩
theorem IsLents.at {w : World} {ao : Option Addr} {len cap : Nat} {Q : List LeE} (h : IsLents w ao len cap Q) {j : Nat} {x : LeE} (hx : Q[j]? = some x) : ∃ g o,ao = some ⟨g,o,none⟩ ∧ w.cell? ⟨g,o + j,none⟩ = some (.slice x.ao x.L.length x.cap) ∧ IsEnts w x.ao x.L.length x.cap x.L := by
 obtain ⟨_,_,_,h4⟩ := h
 rcases h4 with h | ⟨g,o,ha,hc⟩
 ·subst h; simp at hx
 ·obtain ⟨cs,⟨rfl,h2⟩,_,h3⟩ := hc j x hx
  have := h3 0 (by decide)
  exact ⟨g,o,ha,by simpa using this,h2⟩
theorem sum_le {α : Type} (f : α → Nat) {Q : List α} {x : α} (h : x ∈ Q) : f x ≤ (Q.map f).sum := by
 induction Q with
 | nil => cases h
 | cons a t ih =>
  rw [List.map_cons,List.sum_cons]
  rcases List.mem_cons.1 h with rfl | h
  ·omega
  ·have := ih h; omega
def BlI (cs : List Value) (q : Bool) : Prop := cs = [.bool q]
def IsBls (w : World) (ao : Option Addr) (len cap : Nat) (Q : List Bool) : Prop := Q.length = len ∧ len ≤ cap ∧ cap ≤ maxLen ∧ RowsAt BlI 1 w ao Q
theorem IsBls.at {w : World} {ao : Option Addr} {len cap : Nat} {Q : List Bool} (h : IsBls w ao len cap Q) {k : Nat} {q : Bool} (hk : Q[k]? = some q) : ∃ g o,ao = some ⟨g,o,none⟩ ∧ w.cell? ⟨g,o + k,none⟩ = some (.bool q) := by
 obtain ⟨_,_,_,h4⟩ := h
 rcases h4 with h | ⟨g,o,ha,hc⟩
 ·subst h; simp at hk
 ·obtain ⟨cs,h1,h2,h3⟩ := hc k q hk
  have := h3 0 (by decide)
  rw [h1] at this
  exact ⟨g,o,ha,by simpa using this⟩
theorem ROk.dropN {α : Type} {k : Nat} {R : List (Nat × α)} (h : ROk k R) (n : Nat) : ROk k (R.drop n) where
 k1 := h.k1
 k2 := h.k2
 le := by rw [List.length_drop]; have := h.le; omega
 inc := h.inc.sublist (List.drop_sublist _ _)
 lt := fun e he => h.lt e (List.mem_of_mem_drop he)
theorem SendR.two {c e bud st t st' code : Nat} {ss ss' put : Bool} {bo : Option (Nat × List En)} {N : List En} {P : List Nat} (h : SendR c e bud ss st bo t N code P ss' st' put) (h1 : (ss && decide (t ≤ st)) = false) (h2 : fm 0 N = 0) : (lfit c e bud t bo N = false ∧ code = 3 ∧ P = [] ∧ ss' = true ∧ st' = t ∧ put = false) ∨ (lfit c e bud t bo N = true ∧ code = 0 ∧ P = lfrm c e bud t bo N ∧ ss' = true ∧ st' = t ∧ put = true) := by
 rcases h with ⟨a,b,_⟩ | ⟨_,a,_⟩ | ⟨_,_,h⟩ | ⟨_,_,h⟩
 ·rw [a] at h1; simp at h1; omega
 ·exact absurd h2 a
 ·exact .inl h
 ·exact .inr h
structure LnI (w0 : World) (X : List Thing) (k : Nat) (H : List HeE) (ss : Bool) (st : Nat) : Prop where
 cs : ∀ W,Own w0 W X → ∀ x ∈ H,EntsAt W x.ao x.L
 rk : ROk k (H.map HeE.r)
 ok : HOk H
 tk : ∀ x ∈ H,ss = true ∧ x.t ≤ st
theorem LnI.put {w0 : World} {X : List Thing} {k : Nat} {H : List HeE} {ss : Bool} {st : Nat} (h : LnI w0 X k H ss st) {y : HeE} (hy : HOk [y]) (hs : (ss && decide (y.t ≤ st)) = false) (ht : y.t < 4294967296) : LnI w0 (EntsT y.ao y.cap y.L :: X) k (putH k H y) true y.t ∧ ∀ x ∈ H,x.t < y.t := by
 have hlt : ∀ x ∈ H,x.t < y.t := fun x hx => by
  have h1 := h.tk x hx
  rw [h1.1] at hs
  simp at hs
  omega
 refine ⟨⟨fun W hW x hx => ?_,putH_ok h.rk hlt ht,fun x hx => ?_,fun x hx => ?_⟩,hlt⟩
 ·rcases putH_mem hx with hx | rfl
  ·exact h.cs W hW.tail x hx
  ·exact hW.entsAt
 ·rcases putH_mem hx with hx | rfl
  ·exact h.ok x hx
  ·exact hy _ (by simp)
 ·rcases putH_mem hx with hx | rfl
  ·exact ⟨rfl,Nat.le_of_lt (hlt x hx)⟩
  ·exact ⟨rfl,Nat.le_refl _⟩
theorem LnI.more {w0 : World} {X : List Thing} {k : Nat} {H : List HeE} {ss : Bool} {st : Nat} (h : LnI w0 X k H ss st) (P : Thing) : LnI w0 (P :: X) k H ss st := ⟨fun W hW => h.cs W hW.tail,h.rk,h.ok,h.tk⟩
theorem LnI.up {w0 : World} {X : List Thing} {k : Nat} {H : List HeE} {ss : Bool} {st st' : Nat} (h : LnI w0 X k H ss st) (hs : (ss && decide (st' ≤ st)) = false) : LnI w0 X k H true st' := ⟨h.cs,h.rk,h.ok,fun x hx => by
 have h1 := h.tk x hx
 rw [h1.1] at hs
 simp at hs
 exact ⟨rfl,by omega⟩⟩
theorem LnI.drop {w0 : World} {X : List Thing} {k : Nat} {H : List HeE} {ss : Bool} {st : Nat} (h : LnI w0 X k H ss st) (n : Nat) : LnI w0 X k (H.drop n) ss st := ⟨fun W hW x hx => h.cs W hW x (List.mem_of_mem_drop hx),by rw [List.map_drop]; exact h.rk.dropN n,fun x hx => h.ok x (List.mem_of_mem_drop hx),fun x hx => h.tk x (List.mem_of_mem_drop hx)⟩
end Go.Proofs.YtgifeckbflkkpaaGreatDoor
namespace Go.Proofs.YtgifeckbflkkpaaGreatDoor
open Go.RowKit Go.Maps
set_option linter.unusedVariables false
set_option maxHeartbeats 16000000
set_option maxRecDepth 100000
structure Keys (P : Program) (k : TypeId) (κ : Type) where
 law : Keyed P k
 val : κ → Value
 lit : κ → Lit
 ok : κ → Prop
 of : ∀ {x : κ},ok x → keyOf P k (val x) = some (lit x)
 inv : ∀ {v : Value} {l : Lit},keyOf P k v = some l → ∃ x,ok x ∧ v = val x ∧ l = lit x
 inj : ∀ {x y : κ},ok x → ok y → lit x = lit y → x = y
 key : ∀ x,WideAt.IsKeyLit (lit x)
def heldV (v : Value) : Option (DataW Value × List MemPlace) := some (.held v,[])
def rdV (p : Option Value) (z : DataW Value) : DataW Value := match p with
 | none => z
 | some v => .held v
section
variable {P : Program} {k : TypeId} {κ : Type}
def GMap (S : Keys P k κ) (b n sz : Nat) (p : κ → Option Value) : Thing where
 is := fun w A => (∃ D : DataW Value,w.ownsMap P k heldV b n D ∧ (∀ x,S.ok x → ∀ z,D.atKey (S.lit x) z = rdV (p x) z) ∧ Maps.size D = sz) ∧ ∀ j,A j ↔ j = b
 lt := by
  rintro w A j ⟨⟨D,h,_⟩,hA⟩ a
  rw [(hA j).1 a]; exact h.lt
 keep := by
  rintro w w' A B ⟨⟨D,h,hk⟩,hA⟩ hf hn
  refine ⟨⟨D,?_,hk⟩,hA⟩
  have hlt := h.lt
  obtain ⟨es,clock,hb,F,hs,hD⟩ := h
  exact ⟨es,clock,(hf.block b hlt (hn b ((hA b).2 rfl))).trans hb,F,hs,hD⟩
variable {S : Keys P k κ} {w0 w : World} {l : List Thing} {b n sz r cnt : Nat} {p q : κ → Option Value} {left : κ → Prop} {t e : TypeId} {z : Value}
theorem has_of {D : DataW Value} {x : κ} (hd : ∀ z,D.atKey (S.lit x) z = rdV (p x) z) : Maps.has D (S.lit x) = (p x).isSome := by
 cases hp : p x with
 | none => rw [hp] at hd; rw [has_false_of_atKey hd]; rfl
 | some v => rw [hp] at hd; rw [has_true_of_atKey hd]; rfl
theorem Own.gmAt (h : Own w0 w (GMap S b n sz p :: l)) (ht : P.underlying t = some (.map k e)) (hz : (zeroValue e).run P w = .ok z w) (x : κ) (hx : S.ok x) :
  (Instr.lookup t (.map (some b)) (S.val x) false).run P w = .ok ((p x).getD z) w := by
 obtain ⟨A,⟨B,C,⟨⟨D,hm,hd,_⟩,_⟩,_⟩,_⟩ := h
 obtain ⟨v,ps,hrun,hv⟩ := hm.lookup S.law ht hz (show heldV _ = some (.held _,[]) from rfl) (S.of hx)
 have hd := hd x hx
 have hq := (Prod.mk.inj (Option.some.inj hv)).1
 rw [hd] at hq
 cases hp : p x with
 | none =>
  rw [hp] at hq
  have : v = z := by simpa [rdV] using hq
  subst this; exact hrun
 | some u =>
  rw [hp] at hq
  have : v = u := by simpa [rdV] using hq
  subst this; exact hrun
theorem Own.gmPut [DecidableEq κ] (h : Own w0 w (GMap S b n sz p :: l)) (ht : P.underlying t = some (.map k e)) (x : κ) (v : Value) (hx : S.ok x) (hn : n < maxLen) :
  ∃ w',(Instr.mapUpdate t (.map (some b)) (S.val x) v).run P w = .ok () w' ∧ Own w0 w' (GMap S b (n + 1) (if (p x).isSome then sz else sz + 1) (fun y => if y = x then some v else p y) :: l) := by
 obtain ⟨A,⟨⟨D,hm,hd,hs⟩,hA⟩,hlo,act⟩ := h.act
 obtain ⟨w',hrun,hm',hg⟩ := hm.update S.law ht hn (S.of hx) (show heldV v = some (.held v,[]) from rfl)
 refine ⟨w',hrun,act w' (GMap S b (n + 1) _ _) A ⟨⟨_,hm',?_,?_⟩,hA⟩ ((Fr.refl _ _).grown hg (fun k hk => .inl ((hA k).2 (by cases hk; rfl)))) (fun _ a => .inl a)⟩
 ·intro y hy z
  by_cases e : y = x
  ·subst e
   rw [atKey_put_same hm.isMap (k := S.lit y) (S.key y)]; simp [rdV]
  ·rw [atKey_put_other (by intro q; exact e (S.inj hy hx q)),hd y hy]; simp [e]
 ·rw [size_put (hm.tidy S.law),has_of (hd x hx),hs]
theorem Own.gmNew (S : Keys P k κ) (h : Own w0 w l) : Own w0 (w.alloc (.map #[] 0)) (GMap S w.heap.size 0 0 (fun _ => none) :: l) :=
 h.new (GMap S w.heap.size 0 0 (fun _ => none)) (fun j => j = w.heap.size) ⟨⟨.map [],World.ownsMap_made _ _ _ _,fun x _ z => by simp [DataW.atKey,rdV],rfl⟩,fun _ => Iff.rfl⟩ ((Fr.refl _ _).alloc _) (fun j hj => by omega)
theorem Own.gmIs (h : Own w0 w (GMap S b n sz p :: l)) {m : Nat} (hm : n ≤ m) (hq : ∀ x,S.ok x → p x = q x) : Own w0 w (GMap S b m sz q :: l) := by
 obtain ⟨A,⟨B,C,⟨⟨D,hd,hk,hs⟩,hB⟩,r⟩,s⟩ := h
 exact ⟨A,⟨B,C,⟨⟨D,hd.mono hm,fun x hx z => by rw [← hq x hx]; exact hk x hx z,hs⟩,hB⟩,r⟩,s⟩
end
end Go.Proofs.YtgifeckbflkkpaaGreatDoor
