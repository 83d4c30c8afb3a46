/- The document's Peek of a right frame (a Full's, a Step's); kind. -/
import Derived.Test.YtgifeckbflkkpaaGreatDoorQf42
import Derived.Test.YtgifeckbflkkpaaGreatDoorQf17
import Derived.Test.YtgifeckbflkkpaaGreatDoorQf36
import Derived.Test.YtgifeckbflkkpaaGreatDoorQf40
namespace Go.Proofs.YtgifeckbflkkpaaGreatDoor
open Go.RowKit
set_option linter.unusedVariables false
set_option maxHeartbeats 8000000
set_option maxRecDepth 100000
theorem row_bytes {w : World} {base n : Nat} {v : Value} {P : List Nat} (h : w.ownsRow base 5 1 v n (vrow P)) (hn : P.length = n) : ∃ ao cap,v = .slice ao n cap ∧ BytesAt w ao P := by
 obtain ⟨ao,cap,rfl⟩ := row_any h
 refine ⟨ao,cap,rfl,?_⟩
 rcases Nat.eq_zero_or_pos n with h0 | h0
 ·exact .inl (List.eq_nil_of_length_eq_zero (by omega))
 ·obtain ⟨g,cp,hv,_⟩ := row_shape h h0
  obtain ⟨rfl,_,rfl⟩ := Value.slice.inj hv
  refine .inr ⟨g,0,rfl,fun j x hx => ?_⟩
  have hj := (List.getElem?_eq_some_iff.1 hx).1
  rw [Nat.zero_add,h.cellAt j (by omega),getElem?_vrow,hx]; rfl
theorem rpeek_ok (w0 w : World) (l : List Thing) (h : Own w0 w l) (ao : Option Addr) (n cap : Nat) (P : List Nat) (k c e tk s : Nat) (hk : k = 1 ∨ k = 2) (hR : Right k c e tk s) (L R : List Bool) (hL : L = headB k c e tk s ++ R) (hP : P = frm (pack L)) (hlen : (pack L).length ≤ 4096) (hin : In w ao n cap P) :
  Calls Tryz.prog 13 #[.slice ao n cap] w fun x w' => x = .returned (.tuple #[.agg (hvs k c e tk s),.int .i64 0]) ∧ Own w0 w' l := by
 have h1 := h.allocC #[.int .u8 0,.int .u8 0,.int .u32 0,.int .u32 0,.int .u32 0] 29
 obtain ⟨d,hd⟩ : ∃ d,d = (pack L).length := ⟨_,rfl⟩
 have hfo := frm_opens (pack L) d hd.symm
 rw [← hP] at hfo
 have hn : n = d + 4 := by
  have := congrArg List.length hP
  unfold frm at this
  rw [List.length_append,← hd,hin.eqn] at this
  have h4 : (le4 (crc (pack L))).length = 4 := rfl
  omega
 subst hn
 have hop := ropen_ok (w.alloc (.cells #[.int .u8 0,.int .u8 0,.int .u32 0,.int .u32 0,.int .u32 0] 29)) ao cap d P (hin.quiet ((Fr.refl _ _).alloc _)) (by omega) hfo.1
 rw [hfo.2] at hop
 have HOP : Hid (Calls _ _ _ _ _) := hop
 have HD : Hid (d = (pack L).length ∧ d ≤ 4096) := ⟨hd,by omega⟩
 have HH : Hid (∀ W b m Z,SrcO w0 W b (L ++ Z) false m → (L ++ Z).length ≤ 100000 → Calls Tryz.prog 43 #[.pointer (some ⟨b,0,none⟩)] W fun x w' => x = .returned (.agg (hvs k c e tk s)) ∧ SrcO w0 w' b (R ++ Z) false m) := fun W b m Z hW hZ => by
  have e1 : L ++ Z = headB k c e tk s ++ (R ++ Z) := by rw [hL,List.append_assoc]
  rcases hk with rfl | rfl
  ·exact shead1 w0 W m b c e tk s hR _ _ e1 hZ hW
  ·exact shead2 w0 W m b c e tk s hR _ _ e1 hZ hW
 have H1 : Hid (Own w0 _ _) := h1
 clear h h1 hop hfo hd hlen hin hP hL hk hR
 go_enter Tryz.func13,Tryz.ntmps13
 go_wp2_with fail
 refine HOP.out.mono ?_
 rintro x w2 ⟨v,rfl,hrow,hf2⟩
 have h2 := H1.out.quiet hf2
 obtain ⟨a2,c2,rfl,hba⟩ := row_bytes hrow HD.out.1.symm
 have HBI : Hid (Calls _ _ _ _ _) := rbits_any w2 a2 c2 d (pack L) hba HD.out.1.symm (pack_byte _) (by have := HD.out.2; omega)
 have H2 : Hid (Own w0 _ _) := h2
 clear HOP H1 hf2 h2 hrow hba
 generalize w.heap.size = b2 at *
 go_wp2_with fail
 refine HBI.out.mono ?_
 rintro x w3 ⟨vb,rfl,hbo,hf3⟩
 have h3 := H2.out.quiet hf3
 have hbs := hbo.bs
 have hlz : (bitsB (pack L)).length ≤ 100000 := by rw [length_bitsB]; have := HD.out; omega
 rw [bitsB_pack] at hbs hlz
 generalize List.replicate (8 * nb L.length - L.length) false = Z at *
 obtain ⟨a3,c3,rfl⟩ := hbs.shape
 have S3 : SrcO w0 (w3.alloc (.cells #[.slice a3 (L ++ Z).length c3,.bool false] 95)) w3.heap.size (L ++ Z) false _ := ⟨_,h3.allocC _ _,hbs.quiet ((Fr.refl _ _).alloc _)⟩
 have HHC : Hid (Calls _ _ _ _ _) := HH.out _ _ _ Z S3 hlz
 clear HBI H2 hf3 h3 hbo hbs hlz S3 HH
 generalize (L ++ Z).length = lz at *
 go_wp2_with fail
 refine HHC.out.mono ?_
 rintro x w4 ⟨rfl,S4⟩
 obtain ⟨v4,h4,-⟩ := S4
 generalize w3.heap.size = b at *
 unfold hvs
 have h5 := h4.allocC #[.int .u8 (k : Int),.int .u8 (c : Int),.int .u32 (e : Int),.int .u32 (tk : Int),.int .u32 (s : Int)] 29
 have q1 := h5.two.cell 1
 have j0 := h5.cell 0
 have j1 := h5.cell 1
 have j2 := h5.cell 2
 have j3 := h5.cell 3
 have j4 := h5.cell 4
 have z0 := h5.three.froz 0
 have z1 := h5.three.froz 1
 have z2 := h5.three.froz 2
 have z3 := h5.three.froz 3
 have z4 := h5.three.froz 4
 have x0 := h5.three.cell 0
 have x1 := h5.three.cell 1
 have x2 := h5.three.cell 2
 have x3 := h5.three.cell 3
 have x4 := h5.three.cell 4
 simp at q1 j0 j1 j2 j3 j4 x0 x1 x2 x3 x4
 have h6 := ((((h5.three.setC 0 (.int .u8 (k : Int))).setC 1 (.int .u8 (c : Int))).setC 2 (.int .u32 (e : Int))).setC 3 (.int .u32 (tk : Int))).setC 4 (.int .u32 (s : Int))
 simp only [List.setIfInBounds_toArray,List.set_cons_zero,List.set_cons_succ] at h6
 have H6 : Hid (Own w0 _ _) := h6
 clear h4 h5 h6 HHC
 go_wp2
 (try simp only [Exit.inBlock,Exit.then])
 refine bodyPost_ret (v := .tuple #[.agg #[.int .u8 (k : Int),.int .u8 (c : Int),.int .u32 (e : Int),.int .u32 (tk : Int),.int .u32 (s : Int)],.int .i64 0]) ?_ rfl ⟨rfl,H6.out.tail.tail.tail⟩
 rw [results_cell_tmp rfl]
 have r0 := H6.out.cell 0
 have r1 := H6.out.cell 1
 have r2 := H6.out.cell 2
 have r3 := H6.out.cell 3
 have r4 := H6.out.cell 4
 simp at r0 r1 r2 r3 r4
 go_simp
theorem kind_ok (w0 w : World) (l : List Thing) (h : Own w0 w l) (ao : Option Addr) (n cap : Nat) (P : List Nat) (k c e tk s : Nat) (hk : k = 1 ∨ k = 2) (hR : Right k c e tk s) (L R : List Bool) (hL : L = headB k c e tk s ++ R) (hP : P = frm (pack L)) (hlen : (pack L).length ≤ 4096) (hin : In w ao n cap P) :
  Calls Tryz.prog 33 #[.slice ao n cap] w fun x w' => x = .returned (.int .u8 (k : Int)) ∧ Own w0 w' l := by
 have HP : Hid (Calls _ _ _ _ _) := rpeek_ok w0 w l h ao n cap P k c e tk s hk hR L R hL hP hlen hin
 clear h hk hR hL hP hlen hin
 go_enter Tryz.func33,Tryz.ntmps33
 go_wp2_with fail
 refine HP.out.mono ?_
 rintro x w1 ⟨rfl,h1⟩
 unfold hvs
 have h2 := h1.allocC #[.int .u8 (k : Int),.int .u8 (c : Int),.int .u32 (e : Int),.int .u32 (tk : Int),.int .u32 (s : Int)] 29
 have j0 := h2.cell 0
 simp at j0
 have H2 : Hid (Own w0 _ _) := h2.tail
 clear h1 h2 HP
 go_wp2
 go_ret
 exact ⟨rfl,H2.out⟩
theorem SendR.yes {c e bud st t st' code : Nat} {ss ss' put : Bool} {bo : Option (Nat × List En)} {N : List En} {P : List Nat} (h : SendR c e bud ss st bo t N code P ss' st' put) (h1 : (ss && decide (t ≤ st)) = false) (h2 : fm 0 N = 0) (h3 : lfit c e bud t bo N = true) : code = 0 ∧ P = lfrm c e bud t bo N ∧ ss' = true ∧ st' = t ∧ put = true := by
 rcases h with ⟨a,b,_⟩ | ⟨_,a,_⟩ | ⟨_,_,a,_⟩ | ⟨_,_,_,h⟩
 ·rw [a] at h1; simp at h1; omega
 ·exact absurd h2 a
 ·rw [h3] at a; cases a
 ·exact h
theorem putH_ok {k : Nat} {H : List HeE} {x : HeE} (hR : ROk k (H.map HeE.r)) (h : ∀ y ∈ H,y.t < x.t) (ht : x.t < 4294967296) : ROk k ((putH k H x).map HeE.r) where
 k1 := hR.k1
 k2 := hR.k2
 le := by
  have h1 := hR.le
  have h2 := hR.k1
  rw [List.length_map] at h1 ⊢
  unfold putH
  split
  ·rw [List.length_drop,List.length_append]; simp; omega
  ·rw [List.length_append]; simp; omega
 inc := by
  have e : ((H ++ [x]).map HeE.r).Pairwise (fun a b => a.1 < b.1) := by
   rw [List.map_append,List.pairwise_append]
   refine ⟨hR.inc,by simp,fun a ha b hb => ?_⟩
   obtain ⟨y,hy,rfl⟩ := List.mem_map.1 ha
   simp at hb
   subst hb
   exact h y hy
  unfold putH
  split
  ·rw [List.map_drop]; exact e.sublist (List.drop_sublist _ _)
  ·exact e
 lt := fun e he => by
  obtain ⟨y,hy,rfl⟩ := List.mem_map.1 he
  rcases putH_mem hy with hy | rfl
  ·exact hR.lt _ (List.mem_map.2 ⟨y,hy,rfl⟩)
  ·exact ht
theorem lfrm_none {c e bud t : Nat} {N : List En} (h : wfit 1 c e t 0 [] N bud = true) : lfrm c e bud t none N = sfr 1 c e t 0 [] N := by
 show wfr 1 c e t 0 [] N bud = _
 unfold wfr
 rw [if_pos h]
theorem lfrm_some {c e bud t a : Nat} {W N : List En} (h : wfit 2 c e t a W N bud = true) : lfrm c e bud t (some (a,W)) N = sfr 2 c e t a W N := by
 show (if wfit 2 c e t a W N bud = true then _ else _) = _
 rw [if_pos h]
theorem wf1 : wfit 1 3 1 1 0 [] [] 100 = true := by decide +kernel
theorem wf2 : wfit 2 3 1 2 1 [] [] 100 = true := by decide +kernel
theorem wf3 : wfit 2 3 1 3 1 [] [] 100 = true := by decide +kernel
theorem wf4 : wfit 1 3 1 4 0 [] [] 100 = true := by decide +kernel
theorem lsendN (w0 W : World) (htb : Tab w0) (htf : Tabf w0) (b rb st at_ t : Nat) (ss as_ : Bool) (H : List HeE) (X : List Thing) (h : Own w0 W (Cells b (lc 3 1 100 rb ss st as_ at_) 128 :: Ringe rb 2 (H.map HeE.r) :: X)) (hR : ROk 2 (H.map HeE.r)) (hE : ∀ x ∈ H,x.L = []) (hH : HOk H) (hT : ∀ x ∈ H,ss = true ∧ x.t ≤ st) (hs : (ss && decide (t ≤ st)) = false) (ht : t < 4294967296) (ha : at_ < 4294967296) (P : List Nat) (hf : lfit 3 1 100 t (lbo H as_ at_) [] = true) (hP : lfrm 3 1 100 t (lbo H as_ at_) [] = P) (h0 : 0 < P.length) :
  Calls Tryz.prog 23 #[.pointer (some ⟨b,0,none⟩),.int .u32 (t : Int),.slice none 0 0] W fun x w' => ∃ (g cap : Nat) (ya : Option Addr) (yc : Nat),x = .returned (.tuple #[.slice (some ⟨g,0,none⟩) P.length cap,.int .i64 0]) ∧ HOk [⟨t,ya,yc,[]⟩] ∧ Own w0 w' (Cells b (lc 3 1 100 rb true t as_ at_) 128 :: Ringe rb 2 ((putH 2 H ⟨t,ya,yc,[]⟩).map HeE.r) :: Row 5 1 (.slice (some ⟨g,0,none⟩) P.length cap) P.length (vrow P) :: EntsT ya yc [] :: X) := by
 refine (lsend w0 W htb htf X b 3 1 100 rb 2 st at_ ss as_ H hR hH hT (by omega) (by omega) (by omega) ha h t ht none 0 0 [] (fun w' hw => ⟨entsAt_nil w',fun x hx => by rw [hE x hx]; exact ⟨.inl rfl,fun y hy => by cases hy⟩⟩) rfl (by omega) (by omega) (fun x hx => by cases hx) (by unfold esz; simp [csz])).mono ?_
 rintro x w' ⟨v,code,P',ss',st',put,y,rfl,hS,hyt,hyL,hyo,hO⟩
 obtain ⟨rfl,hP',rfl,rfl,rfl⟩ := hS.yes hs rfl hf
 have hP2 : P' = P := by rw [hP']; exact hP
 subst hP2
 obtain ⟨yt,ya,yc,yL⟩ := y
 simp only at hyt hyL
 subst hyt
 have hyn : yL = [] := by
  have e : evs ([] : List EnE) = [] := rfl
  rw [e] at hyL
  unfold evs at hyL
  exact List.map_eq_nil_iff.1 hyL
 subst hyn
 obtain ⟨g,cap,rfl,_⟩ := row_shape hO.row h0
 exact ⟨g,cap,ya,yc,rfl,hyo,hO.perm (perm_lc _ _ _ _)⟩
theorem rt1 : Right 1 3 1 1 0 := ⟨by decide,by decide,by decide,by decide,by decide,by decide,by decide,by decide,by decide⟩
theorem rt2 : Right 2 3 1 2 1 := ⟨by decide,by decide,by decide,by decide,by decide,by decide,by decide,by decide,by decide⟩
theorem rt3 : Right 2 3 1 3 1 := ⟨by decide,by decide,by decide,by decide,by decide,by decide,by decide,by decide,by decide⟩
theorem rt4 : Right 1 3 1 4 0 := ⟨by decide,by decide,by decide,by decide,by decide,by decide,by decide,by decide,by decide⟩
theorem pk_le (k c e t s : Nat) (W N : List En) (h : wfit k c e t s W N 100 = true) : (pack (headB k c e t s ++ contB k W N)).length ≤ 4096 := by
 have h2 := (of_decide_eq_true h).2
 unfold sfr frm at h2
 rw [List.length_append] at h2
 omega
theorem sfr_byte (k c e t s : Nat) (W N : List En) : ∀ x ∈ sfr k c e t s W N,x < 256 := frm_byte _ (pack_byte _)
theorem sfr_pos (k c e t s : Nat) (W N : List En) : 0 < (sfr k c e t s W N).length := by
 unfold sfr frm
 rw [List.length_append]
 have h4 : ∀ x,(le4 x).length = 4 := fun _ => rfl
 rw [h4]; omega
theorem AckR.yes {as_ as' : Bool} {at_ at' t code n : Nat} {H : List HeE} {x : HeE} (h : AckR as_ at_ H t code as' at' n) (h1 : (as_ && decide (t ≤ at_)) = false) (h2 : hget H t = some x) : code = 0 ∧ as' = true ∧ at' = t ∧ n = below t (H.map HeE.r) := by
 rcases h with ⟨a,b,_⟩ | ⟨_,a,_⟩ | ⟨_,_,h⟩
 ·rw [a] at h1; simp at h1; omega
 ·rw [h2] at a; cases a
 ·exact h
theorem HOk.two {x y : HeE} (hx : HOk [x]) (hy : HOk [y]) : HOk [x,y] := fun z hz => by
 simp only [List.mem_cons,List.not_mem_nil,or_false] at hz
 rcases hz with rfl | rfl
 ·exact hx _ (by simp)
 ·exact hy _ (by simp)
theorem frame_in {w : World} {g cap : Nat} {P : List Nat} {w0 : World} {l : List Thing} (h : Own w0 w (Row 5 1 (.slice (some ⟨g,0,none⟩) P.length cap) P.length (vrow P) :: l)) (hb : ∀ x ∈ P,x < 256) : In w (some ⟨g,0,none⟩) P.length cap P := In.of_row h.row rfl hb
theorem awake21 (w : World) (htb : Tab w) (htf : Tabf w) : Calls Tryz.prog 19 #[] w fun x w' => x = .returned (.bool true) ∧ Fr Nobody w w' := by
 have HN : Hid (Calls _ _ _ _ _) := lnew w w [] (Own.start w) 3 1 (by decide) (by decide) 2 100 (by decide) (by decide) (by decide) (by decide)
 have HT : Hid (Tab w ∧ Tabf w) := ⟨htb,htf⟩
 obtain ⟨Pa,hPa⟩ : ∃ P,P = sfr 1 3 1 1 0 [] [] := ⟨_,rfl⟩
 obtain ⟨Pb,hPb⟩ : ∃ P,P = sfr 2 3 1 2 1 [] [] := ⟨_,rfl⟩
 obtain ⟨Pc,hPc⟩ : ∃ P,P = sfr 2 3 1 3 1 [] [] := ⟨_,rfl⟩
 obtain ⟨Pd,hPd⟩ : ∃ P,P = sfr 1 3 1 4 0 [] [] := ⟨_,rfl⟩
 have HP : Hid (Pa = sfr 1 3 1 1 0 [] [] ∧ Pb = sfr 2 3 1 2 1 [] [] ∧ Pc = sfr 2 3 1 3 1 [] [] ∧ Pd = sfr 1 3 1 4 0 [] []) := ⟨hPa,hPb,hPc,hPd⟩
 have HL : Hid (0 < Pa.length ∧ 0 < Pb.length ∧ 0 < Pc.length ∧ 0 < Pd.length) := ⟨by rw [hPa]; exact sfr_pos _ _ _ _ _ _ _,by rw [hPb]; exact sfr_pos _ _ _ _ _ _ _,by rw [hPc]; exact sfr_pos _ _ _ _ _ _ _,by rw [hPd]; exact sfr_pos _ _ _ _ _ _ _⟩
 clear htb htf hPa hPb hPc hPd
 go_enter Tryz.func19,Tryz.ntmps19
 go_wp2_with fail
 refine HN.out.mono ?_
 rintro x w1 ⟨b,rb,rfl,h1⟩
 clear HN
 have HS1 : Hid (Calls _ _ _ _ _) := lsendN w w1 HT.out.1 HT.out.2 b rb 0 0 1 false false [] [] h1 (ROk.nil (by decide) (by decide)) (fun x hx => by cases hx) (fun x hx => by cases hx) (fun x hx => by cases hx) rfl (by decide) (by decide) Pa (by show lfit 3 1 100 1 none [] = true; unfold lfit; simp [wf1]) ((lfrm_none wf1).trans HP.out.1.symm) HL.out.1
 clear h1
 go_wp2_with fail
 refine HS1.out.mono ?_
 rintro x w2 ⟨ga,ca,y1a,y1c,rfl,ho1,h2⟩
 clear HS1
 have e1 : putH 2 [] ⟨1,y1a,y1c,[]⟩ = [⟨1,y1a,y1c,[]⟩] := rfl
 rw [e1] at h2
 have hR1 : ROk 2 (([⟨1,y1a,y1c,[]⟩] : List HeE).map HeE.r) := by rw [← e1]; exact putH_ok (ROk.nil (by decide) (by decide)) (fun x hx => by cases hx) (by show (1 : Nat) < _; decide)
 have HA1 : Hid (Calls _ _ _ _ _) := lack w w2 _ b 3 1 100 rb 2 1 0 true false [⟨1,y1a,y1c,[]⟩] hR1 h2 1 (by decide)
 have HR1 : Hid (ROk 2 (([⟨1,y1a,y1c,[]⟩] : List HeE).map HeE.r) ∧ HOk [⟨1,y1a,y1c,[]⟩]) := ⟨hR1,ho1⟩
 clear h2 hR1 ho1 e1
 go_wp2_with fail
 refine HA1.out.mono ?_
 rintro x w3 ⟨code,as',at',n,rfl,hA,h3⟩
 obtain ⟨rfl,rfl,rfl,rfl⟩ := hA.yes (x := ⟨1,y1a,y1c,[]⟩) rfl rfl
 have h3 : Own w w3 (Cells b (lc 3 1 100 rb true 1 true 1) 128 :: Ringe rb 2 (([⟨1,y1a,y1c,[]⟩] : List HeE).map HeE.r) :: Row 5 1 (.slice (some ⟨ga,0,none⟩) Pa.length ca) Pa.length (vrow Pa) :: EntsT y1a y1c [] :: []) := h3
 have HS2 : Hid (Calls _ _ _ _ _) := lsendN w w3 HT.out.1 HT.out.2 b rb 1 1 2 true true [⟨1,y1a,y1c,[]⟩] _ h3 HR1.out.1 (fun x hx => by rw [List.mem_singleton.1 hx]) HR1.out.2 (fun x hx => by rw [List.mem_singleton.1 hx]; exact ⟨rfl,Nat.le_refl _⟩) rfl (by decide) (by decide) Pb (by show lfit 3 1 100 2 (some (1,[])) [] = true; unfold lfit; simp [wf2]) ((lfrm_some (a := 1) (W := []) wf2).trans HP.out.2.1.symm) HL.out.2.1
 clear h3 HA1 hA
 go_wp2_with fail
 refine HS2.out.mono ?_
 rintro x w4 ⟨gb,cb,y2a,y2c,rfl,ho2,h4⟩
 clear HS2
 have e2 : putH 2 [⟨1,y1a,y1c,[]⟩] ⟨2,y2a,y2c,[]⟩ = [⟨1,y1a,y1c,[]⟩,⟨2,y2a,y2c,[]⟩] := rfl
 rw [e2] at h4
 have hR2 : ROk 2 (([⟨1,y1a,y1c,[]⟩,⟨2,y2a,y2c,[]⟩] : List HeE).map HeE.r) := by rw [← e2]; exact putH_ok HR1.out.1 (fun x hx => by rw [List.mem_singleton.1 hx]; show (1 : Nat) < 2; decide) (by show (2 : Nat) < _; decide)
 have HS3 : Hid (Calls _ _ _ _ _) := lsendN w w4 HT.out.1 HT.out.2 b rb 2 1 3 true true [⟨1,y1a,y1c,[]⟩,⟨2,y2a,y2c,[]⟩] _ h4 hR2 (fun x hx => by simp only [List.mem_cons,List.not_mem_nil,or_false] at hx; rcases hx with rfl | rfl <;> rfl) (HR1.out.2.two ho2) (fun x hx => by simp only [List.mem_cons,List.not_mem_nil,or_false] at hx; rcases hx with rfl | rfl <;> exact ⟨rfl,by simp⟩) rfl (by decide) (by decide) Pc (by show lfit 3 1 100 3 (some (1,[])) [] = true; unfold lfit; simp [wf3]) ((lfrm_some (a := 1) (W := []) wf3).trans HP.out.2.2.1.symm) HL.out.2.2.1
 have HR2 : Hid (ROk 2 (([⟨1,y1a,y1c,[]⟩,⟨2,y2a,y2c,[]⟩] : List HeE).map HeE.r) ∧ HOk [⟨2,y2a,y2c,[]⟩]) := ⟨hR2,ho2⟩
 clear h4 e2 hR2 ho2
 go_wp2_with fail
 refine HS3.out.mono ?_
 rintro x w5 ⟨gc,cc,y3a,y3c,rfl,ho3,h5⟩
 clear HS3
 have e3 : putH 2 [⟨1,y1a,y1c,[]⟩,⟨2,y2a,y2c,[]⟩] ⟨3,y3a,y3c,[]⟩ = [⟨2,y2a,y2c,[]⟩,⟨3,y3a,y3c,[]⟩] := rfl
 rw [e3] at h5
 have hR3 : ROk 2 (([⟨2,y2a,y2c,[]⟩,⟨3,y3a,y3c,[]⟩] : List HeE).map HeE.r) := by rw [← e3]; exact putH_ok HR2.out.1 (fun x hx => by simp only [List.mem_cons,List.not_mem_nil,or_false] at hx; rcases hx with rfl | rfl <;> simp) (by show (3 : Nat) < _; decide)
 have HBA : Hid (Calls _ _ _ _ _) := lBase w w5 _ b 3 1 100 rb 2 3 1 true true [⟨2,y2a,y2c,[]⟩,⟨3,y3a,y3c,[]⟩] hR3 h5
 have HR3 : Hid (ROk 2 (([⟨2,y2a,y2c,[]⟩,⟨3,y3a,y3c,[]⟩] : List HeE).map HeE.r) ∧ HOk [⟨2,y2a,y2c,[]⟩,⟨3,y3a,y3c,[]⟩]) := ⟨hR3,HR2.out.2.two ho3⟩
 have hlb : lbo [⟨2,y2a,y2c,[]⟩,⟨3,y3a,y3c,[]⟩] true 1 = none := rfl
 rw [hlb] at HBA
 clear h5 e3 hR3 ho3 hlb
 go_wp2_with fail
 refine HBA.out.mono ?_
 rintro x w6 ⟨rfl,h6⟩
 clear HBA
 have HS4 : Hid (Calls _ _ _ _ _) := lsendN w w6 HT.out.1 HT.out.2 b rb 3 1 4 true true [⟨2,y2a,y2c,[]⟩,⟨3,y3a,y3c,[]⟩] _ h6 HR3.out.1 (fun x hx => by simp only [List.mem_cons,List.not_mem_nil,or_false] at hx; rcases hx with rfl | rfl <;> rfl) HR3.out.2 (fun x hx => by simp only [List.mem_cons,List.not_mem_nil,or_false] at hx; rcases hx with rfl | rfl <;> exact ⟨rfl,by simp⟩) rfl (by decide) (by decide) Pd (by show lfit 3 1 100 4 none [] = true; unfold lfit; simp [wf4]) ((lfrm_none wf4).trans HP.out.2.2.2.symm) HL.out.2.2.2
 clear h6
 simp only [Option.isSome_none]
 go_wp2_with fail
 refine HS4.out.mono ?_
 rintro x w7 ⟨gd,cd,y4a,y4c,rfl,ho4,h7⟩
 clear HS4 ho4
 have HKA : Hid (Calls _ _ _ _ _) := kind_ok w w7 _ h7 (some ⟨ga,0,none⟩) Pa.length ca Pa 1 3 1 1 0 (.inl rfl) rt1 _ _ rfl HP.out.1 (pk_le _ _ _ _ _ _ _ wf1) (frame_in (Own.lift (l := [_,_,_,_,_,_,_,_]) h7) (by rw [HP.out.1]; exact sfr_byte _ _ _ _ _ _ _))
 clear h7
 go_wp2_with fail
 refine HKA.out.mono ?_
 rintro x w8 ⟨rfl,h8⟩
 clear HKA
 have HKB : Hid (Calls _ _ _ _ _) := kind_ok w w8 _ h8 (some ⟨gb,0,none⟩) Pb.length cb Pb 2 3 1 2 1 (.inr rfl) rt2 _ _ rfl HP.out.2.1 (pk_le _ _ _ _ _ _ _ wf2) (frame_in (Own.lift (l := [_,_,_,_,_,_]) h8) (by rw [HP.out.2.1]; exact sfr_byte _ _ _ _ _ _ _))
 clear h8
 go_wp2_with fail
 refine HKB.out.mono ?_
 rintro x w9 ⟨rfl,h9⟩
 clear HKB
 have HKC : Hid (Calls _ _ _ _ _) := kind_ok w w9 _ h9 (some ⟨gc,0,none⟩) Pc.length cc Pc 2 3 1 3 1 (.inr rfl) rt3 _ _ rfl HP.out.2.2.1 (pk_le _ _ _ _ _ _ _ wf3) (frame_in (Own.lift (l := [_,_,_,_]) h9) (by rw [HP.out.2.2.1]; exact sfr_byte _ _ _ _ _ _ _))
 clear h9
 go_wp2_with fail
 refine HKC.out.mono ?_
 rintro x w10 ⟨rfl,h10⟩
 clear HKC
 have HKD : Hid (Calls _ _ _ _ _) := kind_ok w w10 _ h10 (some ⟨gd,0,none⟩) Pd.length cd Pd 1 3 1 4 0 (.inl rfl) rt4 _ _ rfl HP.out.2.2.2 (pk_le _ _ _ _ _ _ _ wf4) (frame_in (Own.lift (l := [_,_]) h10) (by rw [HP.out.2.2.2]; exact sfr_byte _ _ _ _ _ _ _))
 clear h10
 go_wp2_with fail
 refine HKD.out.mono ?_
 rintro x w11 ⟨rfl,h11⟩
 have HF : Hid (Fr Nobody w w11) := h11.fr
 clear HKD h11
 go_wp2
 go_ret
 exact ⟨rfl,HF.out⟩
end Go.Proofs.YtgifeckbflkkpaaGreatDoor
