/- A world as the document's is: law 15's alike. -/
import Derived.Test.YtogmdoiecpihdaaGreatDoorQw51
import Derived.Test.YtogmdoiecpihdaaGreatDoorQw27
import Derived.Test.YtogmdoiecpihdaaGreatDoorQw35
namespace Go.Proofs.YtogmdoiecpihdaaGreatDoor
open Go.RowKit Go.Maps
set_option linter.unusedVariables false
set_option maxHeartbeats 16000000
set_option maxRecDepth 100000
theorem wentW (w0 w : World) (l : List Thing) (b K n : Nat) (x : Wd) (hσ : x.σ.Ok) (id : Nat) (hid : id < 4294967296) (hl : x.σ.S.isLive id = true) (hK : K ≤ 1000000) (h : Own w0 w (WdT b x K n :: l)) :
  Calls Tryz.prog 63 #[.pointer (some ⟨b,0,none⟩),.int .u32 (id : Int)] w fun e w' => ∃ ao cap,e = .returned (.tuple #[.agg #[.int .u32 (id : Int),.slice ao (x.σ.cps id).length cap],.int .i64 0]) ∧ Own w0 w' (Row 46 4 (.slice ao (x.σ.cps id).length cap) (x.σ.cps id).length (ccat (x.σ.cps id)) :: WdT b x K n :: l) := by
 obtain ⟨bs,bw,mp,pv,h⟩ := h.wdO
 refine (went w0 w _ b bs _ x.σ K h rfl hσ id hid hl hK).mono ?_
 rintro e w' ⟨ao,cap,rfl,h2⟩
 exact ⟨ao,cap,rfl,Own.ex2.2 ⟨(bs,bw,mp,pv),h2⟩⟩
def RLT (la : Option Addr) (lc b : Nat) (y : RWd) (bs : Nat) (wv mv pv : Value) (xs : RX) : Thing := Ex (fun _ : Unit => RWdL la lc b y bs wv mv pv xs)
theorem Own.rlO {w0 w : World} {l : List Thing} {la : Option Addr} {lc b bs : Nat} {y : RWd} {wv mv pv : Value} {xs : RX} (h : Own w0 w (RLT la lc b y bs wv mv pv xs :: l)) : Own w0 w (SeeT la lc bs y.σ xs :: Cells b (rwcs bs wv y.T mv pv) 109 :: WtT wv y.E :: Row 121 3 mv y.M.length (cat MkE.cs y.M) :: Row 126 4 pv y.P.length (cat PlE.cs y.P) :: l) := by
 obtain ⟨_,h⟩ := Own.ex_iff.1 h
 exact h
theorem Own.rlS {w0 w : World} {l : List Thing} {la : Option Addr} {lc b bs : Nat} {y : RWd} {wv mv pv : Value} {xs : RX} (h : Own w0 w (RWdL la lc b y bs wv mv pv xs ++ l)) : Own w0 w (RLT la lc b y bs wv mv pv xs :: l) := Own.ex_iff.2 ⟨(),h⟩
theorem evs_see {σ : Sto} {x : RX} {K : Nat} (hx : RXok σ x K) (hσ : σ.Ok) : evs (seeL σ x) = σ.S.list.map (fun id => (id,σ.cps id)) := by
 unfold evs seeL
 rw [List.map_map,List.map_map]
 refine List.map_congr_left (fun id hid => ?_)
 obtain ⟨_,h1,h2,_⟩ := hx.at hσ (St.list_w hσ.s hid).1
 show ((x.at σ id).1,(x.at σ id).2.1) = _
 rw [h1,h2]
theorem csz_six {L : List EnE} (h : ∀ x ∈ L,x.C.length ≤ 6) : csz L ≤ 6 * L.length := by
 induction L with
 | nil => simp [csz]
 | cons x L ih =>
  have h1 := h x List.mem_cons_self
  have h2 := ih (fun z hz => h z (List.mem_cons_of_mem _ hz))
  unfold csz
  rw [List.length_cons]
  omega
theorem chgM_none {σ : Sto} {M : List MkE} (hM : MkOf σ M) (hσ : σ.Ok) {id k : Nat} (h : gcp σ id k = none) : chgM M id k = 0 := by
 have e : M.find? (mkB id k) = none := by
  rw [List.find?_eq_none]
  intro m hm hb
  rw [hM] at hm
  obtain ⟨x,hx,rfl⟩ := List.mem_map.1 hm
  obtain ⟨h1,h2⟩ := allS_mem.1 hx
  simp [mkB] at hb
  rw [← hb.1,← hb.2,gcp_of hσ h1 h2] at h
  cases h
 unfold chgM
 rw [e]; rfl
theorem alike15 (w0 w : World) (l : List Thing) (ba bb K n K2 : Nat) (T : Nat) (σ : Sto) (E : List OrdE) (S : Nat → Nat → Option SgE) (P : List PlE) (E2 : List OrdE) (M : List MkE) (h : Own w0 w (WdT ba ⟨T,σ,E,S,P⟩ K n :: RWdT bb ⟨T,σ,E2,M,P⟩ K2 :: l)) (hσ : σ.Ok) (hE : E2.length = E.length) (hI : InvM σ S M) (hMk : MkOf σ M) (hK : K ≤ 1000000) (hK2 : K2 ≤ 1000000) (hM : M.length ≤ 10000) (hP : P.length ≤ 100000) :
  Calls Tryz.prog 18 #[.pointer (some ⟨ba,0,none⟩),.pointer (some ⟨bb,0,none⟩)] w fun e w' => e = .returned (.bool true) ∧ Own w0 w' (WdT ba ⟨T,σ,E,S,P⟩ K n :: RWdT bb ⟨T,σ,E2,M,P⟩ K2 :: l) := by
 have Hσ : Hid σ.Ok := hσ
 have HI : Hid (InvM σ S M) := hI
 have HMk : Hid (MkOf σ M) := hMk
 have HRL : Hid (Calls _ _ _ _ _) := rlist15 w0 w _ bb K2 _ h.two hσ hK2
 have HWL : Hid (∀ W l',Own w0 W (WdT ba ⟨T,σ,E,S,P⟩ K n :: l') → Calls Tryz.prog 29 #[.pointer (some ⟨ba,0,none⟩)] W fun e w' => ∃ (ao : Option Addr) (cap : Nat) (L : List EnE),e = .returned (.slice ao L.length cap) ∧ L.map (fun x => (x.id,x.C)) = σ.S.list.map (fun id => (id,σ.cps id)) ∧ Own w0 w' (EntsT ao cap L :: WdT ba ⟨T,σ,E,S,P⟩ K n :: l')) := fun W l' hW => wlistT w0 W l' ba K n _ hσ hK hW
 have HWP : Hid (∀ W l',Own w0 W (WdT ba ⟨T,σ,E,S,P⟩ K n :: l') → Calls Tryz.prog 36 #[.pointer (some ⟨ba,0,none⟩)] W fun e w' => ∃ ao cap,e = .returned (.slice ao P.length cap) ∧ Own w0 w' (Row 92 4 (.slice ao P.length cap) P.length (cat PlE.cs P) :: WdT ba ⟨T,σ,E,S,P⟩ K n :: l')) := fun W l' hW => wplaces w0 W l' ba K n _ (by show P.length ≤ _; omega) hW
 have HWT : Hid (∀ W l',Own w0 W (WdT ba ⟨T,σ,E,S,P⟩ K n :: l') → Calls Tryz.prog 37 #[.pointer (some ⟨ba,0,none⟩)] W fun e w' => e = .returned (.int .u32 (T : Int)) ∧ w' = W) := fun W l' hW => wtick w0 W l' ba K n _ hW
 have HWN : Hid (∀ W l',Own w0 W (WdT ba ⟨T,σ,E,S,P⟩ K n :: l') → Calls Tryz.prog 62 #[.pointer (some ⟨ba,0,none⟩)] W fun e w' => e = .returned (.int .i64 (E.length : Int)) ∧ w' = W) := fun W l' hW => wpending w0 W l' ba K n _ hW
 have HEN : Hid (∀ W l' (id : Nat),id ∈ σ.S.list → Own w0 W (WdT ba ⟨T,σ,E,S,P⟩ K n :: l') → Calls Tryz.prog 63 #[.pointer (some ⟨ba,0,none⟩),.int .u32 (id : Int)] W fun e w' => ∃ ao cap,e = .returned (.tuple #[.agg #[.int .u32 (id : Int),.slice ao (σ.cps id).length cap],.int .i64 0]) ∧ Own w0 w' (Row 46 4 (.slice ao (σ.cps id).length cap) (σ.cps id).length (ccat (σ.cps id)) :: WdT ba ⟨T,σ,E,S,P⟩ K n :: l')) := fun W l' id hid hW => wentW w0 W l' ba K n _ hσ id (St.list_w hσ.s hid).2 (St.list_w hσ.s hid).1 hK hW
 have HLV : Hid (∀ W l' (id : Nat),id ∈ σ.S.list → Own w0 W (WdT ba ⟨T,σ,E,S,P⟩ K n :: l') → Calls Tryz.prog 65 #[.pointer (some ⟨ba,0,none⟩),.int .u32 (id : Int)] W fun e w' => e = .returned (.bool true) ∧ Own w0 w' (WdT ba ⟨T,σ,E,S,P⟩ K n :: l')) := fun W l' id hid hW => by
  have := wlive w0 W l' ba K n _ hσ id (St.list_w hσ.s hid).2 hW
  rw [(St.list_w hσ.s hid).1] at this
  exact this
 have HCG : Hid (∀ W l' (id k : Nat),id ∈ σ.S.list → k < 256 → Own w0 W (WdT ba ⟨T,σ,E,S,P⟩ K n :: l') → Calls Tryz.prog 38 #[.pointer (some ⟨ba,0,none⟩),.int .u32 (id : Int),.int .u8 (k : Int)] W fun e w' => e = .returned (.tuple #[.int .u32 (chgM M id k : Int),.int .i64 (if (gcp σ id k).isSome then 0 else 10)]) ∧ Own w0 w' (WdT ba ⟨T,σ,E,S,P⟩ K n :: l')) := fun W l' id k hid hk hW => by
  have := wchanged w0 W l' ba K n _ hσ id (St.list_w hσ.s hid).2 k hk hW
  simp only [(St.list_w hσ.s hid).1] at this
  refine this.mono ?_
  rintro e w' ⟨rfl,h2⟩
  refine ⟨?_,h2⟩
  show Ending.returned (chgd true (S id k)) = _
  rw [hI id k]
  cases hg : gcp σ id k with
  | none => rw [chgM_none hMk hσ hg]; rfl
  | some c => rfl
 obtain ⟨el,hel⟩ : ∃ el,E.length = el := ⟨_,rfl⟩
 obtain ⟨pl,hpl⟩ : ∃ pl,P.length = pl := ⟨_,rfl⟩
 obtain ⟨ml,hml⟩ : ∃ ml,M.length = ml := ⟨_,rfl⟩
 have HLN : Hid (E2.length = el ∧ P.length = pl ∧ M.length = ml) := ⟨hE.trans hel,hpl,hml⟩
 rw [hel] at HWN
 rw [hpl] at HWP hP
 rw [hml] at hM
 clear h hσ hE hI hMk hel hpl hml
 go_enter Tryz.func18,Tryz.ntmps18
 go_wp2_with fail
 refine HRL.out.mono ?_
 rintro e w1 ⟨la,lc,bs,wv,mv,pv,xs,rfl,hxs,hO⟩
 have HX : Hid (RXok σ xs K2) := hxs
 have H1 : Hid (Own w0 w1 (WdT ba ⟨T,σ,E,S,P⟩ K n :: RLT la lc bb ⟨T,σ,E2,M,P⟩ bs wv mv pv xs :: l)) := hO.rlS.two
 clear hO hxs HRL
 obtain ⟨ln,hln⟩ : ∃ ln,σ.S.list.length = ln := ⟨_,rfl⟩
 have hln2 : ln ≤ 1024 := by rw [← hln]; exact list_lenW Hσ.out.s
 have HL2 : Hid (σ.S.list.length = ln) := hln
 simp only [hln]
 clear hln
 have HC : Hid (Calls _ _ _ _ _) := HWL.out w1 _ H1.out
 go_wp2_with fail
 refine HC.out.mono ?_
 rintro e w2 ⟨ao,cap,L,rfl,hL,hO⟩
 have hx := HX.out
 have hok := Hσ.out
 obtain ⟨hl1,hl2⟩ := ents_ok hok hL
 have HS : Hid (Calls _ _ _ _ _) := sameEnts_any w2 ao la L.length ln cap lc L (seeL σ xs) hO.entsAt (hO.three.rlO.see hx hok) rfl (by rw [seeL_len]; exact HL2.out) (by
   have := csz_six (L := L) (fun x hx => (hl2 x hx).2.1)
   unfold esz; omega) (by
   have : csz (seeL σ xs) ≤ 6 * (seeL σ xs).length := csz_six (fun y hy => by
    obtain ⟨h1,h2⟩ := seeL_in hx hok hy
    obtain ⟨r,C,hr,he,hC,_⟩ := hok.ent (St.list_w hok.s h1).1
    rw [h2,Sto.cps_of hr he]
    exact lst_len6 hC)
   have h3 : (seeL σ xs).length = ln := by rw [seeL_len]; exact HL2.out
   unfold esz; omega)
 have hev : decide (evs L = evs (seeL σ xs)) = true := by
  rw [decide_eq_true_iff,evs_see hx hok]
  exact hL
 rw [hev] at HS
 have H2 : Hid (Own w0 w2 (WdT ba ⟨T,σ,E,S,P⟩ K n :: RLT la lc bb ⟨T,σ,E2,M,P⟩ bs wv mv pv xs :: l)) := hO.tail
 clear hO hL hx hok hl1 hl2 hev HC H1 HWL
 go_wp2_with fail
 refine HS.out.mono ?_
 rintro e w3 ⟨rfl,hf⟩
 have H3 : Hid (Own w0 w3 (WdT ba ⟨T,σ,E,S,P⟩ K n :: RLT la lc bb ⟨T,σ,E2,M,P⟩ bs wv mv pv xs :: l)) := H2.out.quiet hf
 clear hf H2 HS
 have HC : Hid (Calls _ _ _ _ _) := HWP.out w3 _ H3.out
 go_wp2_with fail
 refine HC.out.mono ?_
 rintro e w4 ⟨pa,pc,rfl,hO⟩
 have h4 : Own w0 w4 (RLT la lc bb ⟨T,σ,E2,M,P⟩ bs wv mv pv xs :: Row 92 4 (.slice pa pl pc) pl (cat PlE.cs P) :: WdT ba ⟨T,σ,E,S,P⟩ K n :: l) := hO.sel 3 [2,0,1] (by decide)
 have h5 := h4.rlO
 obtain ⟨wva,wvc,hwv⟩ := row_any h5.three.wtO.row
 obtain ⟨qa,qc,hqv⟩ := row_any h5.five.row
 subst hwv
 subst hqv
 rw [HLN.out.1] at h5
 rw [HLN.out.2.1] at h5
 have f1 : ∀ f : FrOf w4,f.val.cell? ⟨bb,1,none⟩ = some (.slice wva el wvc) := fun f => ((h5.two).frCells f 1).trans rfl
 have f2 : ∀ f : FrOf w4,f.val.cell? ⟨bb,2,none⟩ = some (.int .u32 (T : Int)) := fun f => ((h5.two).frCells f 2).trans rfl
 have f4 : ∀ f : FrOf w4,f.val.cell? ⟨bb,4,none⟩ = some (.slice qa pl qc) := fun f => ((h5.two).frCells f 4).trans rfl
 have H4 : Hid (Own w0 w4 (WdT ba ⟨T,σ,E,S,P⟩ K n :: RLT la lc bb ⟨T,σ,E2,M,P⟩ bs (.slice wva E2.length wvc) mv (.slice qa P.length qc) xs :: Row 92 4 (.slice pa pl pc) pl (cat PlE.cs P) :: l)) := by
  have e := HLN.out
  have := h4.sel 3 [2,0,1] (by decide)
  rw [e.1,e.2.1]
  rw [e.1,e.2.1] at this
  exact this
 have CT : Hid (∀ f : FrOf w4,Calls Tryz.prog 37 #[.pointer (some ⟨ba,0,none⟩)] f.val fun e w' => e = .returned (.int .u32 (T : Int)) ∧ w' = f.val) := fun f => HWT.out f.val _ (H4.out.quiet f.fr)
 have CP : Hid (∀ f : FrOf w4,Calls Tryz.prog 62 #[.pointer (some ⟨ba,0,none⟩)] f.val fun e w' => e = .returned (.int .i64 (el : Int)) ∧ w' = f.val) := fun f => HWN.out f.val _ (H4.out.quiet f.fr)
 have et : ((T : Int) != (T : Int)) = false := by simp
 have ee : ((el : Int) != (el : Int)) = false := by simp
 have ep : ((pl : Int) != (pl : Int)) = false := by simp
 clear hO h4 h5 HC H3 HWP
 go_wp2
 refine wp_region_fr (by kernel_rfl) (by kernel_rfl) ?_
 repeat (with_reducible refine wpQuiet_step (fun K hK => ?_)
         go_simp
         first
          | (refine hK _ ?_; clear hK K)
          | (apply Exists.intro
             refine ⟨fun _ => ?_,hK _ ?_⟩
             first
              | (go_at_call 37; with_reducible refine Calls.fr_same (CT.out _))
              | (go_at_call 62; with_reducible refine Calls.fr_same (CP.out _))
             clear hK K))
 refine wpQuiet_nil ?_
 rintro w' ⟨f,rfl⟩
 have H5 : Hid (Own w0 f.val _) := H4.out.quiet f.fr
 clear f1 f2 f4 CT CP H4 HWT HWN et ee ep
 obtain ⟨RLX,hRLX⟩ : ∃ X,RLT la lc bb ⟨T,σ,E2,M,P⟩ bs (.slice wva E2.length wvc) mv (.slice qa P.length qc) xs = X := ⟨_,rfl⟩
 have HPL : Hid (∀ W l',Own w0 W (RLX :: l') → PlsAt W qa P ∧ W.cell? ⟨bb,4,none⟩ = some (.slice qa pl qc)) := fun W l' hW => by
  rw [← hRLX] at hW
  have h5 := hW.rlO
  refine ⟨pls_row h5.five.row rfl,?_⟩
  have := h5.two.cell 4
  rw [this,HLN.out.2.1.symm]; rfl
 have HGT : Hid (∀ W l' (id k : Nat),k < 256 → Own w0 W (RLX :: l') → Calls Tryz.prog 58 #[.slice la ln lc,.int .u32 (id : Int),.int .u8 (k : Int)] W fun e w' => e = .returned (gag (gcp σ id k)) ∧ Fr Nobody W w') := fun W l' id k hk hW => by
  rw [← hRLX] at hW
  exact rget_see hW.rlO HX.out Hσ.out HL2.out.symm id k hk
 have HCH : Hid (∀ W l' (id k : Nat),Own w0 W (RLX :: l') → Calls Tryz.prog 59 #[.pointer (some ⟨bb,0,none⟩),.int .u32 (id : Int),.int .u8 (k : Int)] W fun e w' => e = .returned (.int .u32 (chgM M id k : Int)) ∧ Fr Nobody W w') := fun W l' id k hW => by
  rw [← hRLX] at hW
  have h5 := hW.rlO
  obtain ⟨mva,mvc,hmv⟩ := row_any h5.four.row
  have q3 := h5.two.cell 3
  have h4 := h5.four.row
  rw [hmv,HLN.out.2.2] at h4
  rw [hmv,HLN.out.2.2] at q3
  exact rchanged15 W bb mva ml mvc M (q3.trans rfl) (mks_row h4 HLN.out.2.2) HLN.out.2.2 (by omega) id k
 have HSE : Hid (∀ W l',Own w0 W (RLX :: l') → EntsAt W la (seeL σ xs)) := fun W l' hW => by
  rw [← hRLX] at hW
  exact hW.rlO.see HX.out Hσ.out
 have HCL : Hid (∀ W l',Own w0 W (WdT ba ⟨T,σ,E,S,P⟩ K n :: RLX :: l') → Own w0 W (WdT ba ⟨T,σ,E,S,P⟩ K n :: RWdT bb ⟨T,σ,E2,M,P⟩ K2 :: l')) := fun W l' hW => by
  have h2 := hW.two
  rw [← hRLX] at h2
  exact (Own.rwC (xs := xs) h2.rlO HX.out).two
 rw [hRLX] at H5
 clear hRLX HI HMk
 generalize hWf : f.val = W5 at *
 clear hWf f
 go_wp2
 refine wp_loop (fun a' wr => ∃ (i : Nat) (Qp : List Value),a' = { tmps := #[.pointer (some ⟨ba,0,none⟩),.pointer (some ⟨bb,0,none⟩),gf a' 2,gf a' 3,gf a' 4,.slice la ln lc,.slice pa pl pc,gf a' 7,gf a' 8,gf a' 9,gf a' 10,gf a' 11,gf a' 12,gf a' 13,gf a' 14,gf a' 15,gf a' 16,gf a' 17,gf a' 18,gf a' 19,gf a' 20,gf a' 21,gf a' 22,gf a' 23,gf a' 24,gf a' 25,gf a' 26,gf a' 27,gf a' 28,gf a' 29,gf a' 30,gf a' 31,gf a' 32,gf a' 33,gf a' 34,gf a' 35,gf a' 36,gf a' 37,gf a' 38,gf a' 39,gf a' 40,gf a' 41,gf a' 42,gf a' 43,gf a' 44,gf a' 45,gf a' 46,gf a' 47,gf a' 48,gf a' 49,gf a' 50,gf a' 51,gf a' 52,gf a' 53,gf a' 54,gf a' 55,gf a' 56,gf a' 57,gf a' 58,gf a' 59,gf a' 60,gf a' 61,gf a' 62,gf a' 63,gf a' 64,gf a' 65,gf a' 66,gf a' 67,gf a' 68,gf a' 69,.int .i64 (pl : Int),.int .i64 (i : Int),gf a' 72,gf a' 73,gf a' 74,gf a' 75,gf a' 76,gf a' 77,gf a' 78,gf a' 79,gf a' 80,gf a' 81,gf a' 82,gf a' 83,gf a' 84,gf a' 85,gf a' 86,gf a' 87,gf a' 88,gf a' 89,gf a' 90,gf a' 91,gf a' 92,gf a' 93,gf a' 94,gf a' 95,gf a' 96,gf a' 97,gf a' 98,gf a' 99,gf a' 100,gf a' 101,gf a' 102,gf a' 103,gf a' 104,gf a' 105,gf a' 106,gf a' 107,gf a' 108,gf a' 109,gf a' 110,gf a' 111,gf a' 112,gf a' 113,gf a' 114,gf a' 115,gf a' 116,gf a' 117,gf a' 118,gf a' 119,gf a' 120,gf a' 121,gf a' 122,gf a' 123,gf a' 124,gf a' 125,gf a' 126,gf a' 127,gf a' 128,gf a' 129,gf a' 130,gf a' 131,gf a' 132,gf a' 133,gf a' 134,gf a' 135,gf a' 136,gf a' 137,gf a' 138,gf a' 139,gf a' 140,gf a' 141,gf a' 142,gf a' 143,gf a' 144,gf a' 145,gf a' 146,gf a' 147,gf a' 148,gf a' 149,gf a' 150,gf a' 151,gf a' 152,gf a' 153,gf a' 154,gf a' 155,gf a' 156,gf a' 157,gf a' 158,gf a' 159,gf a' 160,gf a' 161,gf a' 162,gf a' 163,gf a' 164],defers := [] } ∧ i ≤ pl ∧ (∀ m,i * 4 ≤ m → Qp[m]? = (cat PlE.cs P)[m]?) ∧ Own w0 wr (WdT ba ⟨T,σ,E,S,P⟩ K n :: RLX :: Row 92 4 (.slice pa pl pc) pl Qp :: l)) (fun a' _ => pl - (intOf (a'.tmps.getD 71 undef)).toNat) ?_ ?_
 ·exact ⟨0,_,rfl,Nat.zero_le _,fun _ _ => rfl,H5.out⟩
 ·intro a' wr hI
  obtain ⟨i,Qp,hact,hi,hQp,hO⟩ := hI
  obtain ⟨u,hu⟩ : ∃ u : Nat → Value,∀ k,gf a' k = u k := ⟨_,fun _ => rfl⟩
  simp only [hu] at hact
  clear hu
  subst hact
  clear H5
  by_cases hlt : i < pl
  ·have hlt' : (i : Int) < (pl : Int) := by omega
   obtain ⟨p,hp⟩ : ∃ p,P[i]? = some p := ⟨_,List.getElem?_eq_getElem (by rw [HLN.out.2.1]; exact hlt)⟩
   obtain ⟨gp,pc',hv,_⟩ := row_shape hO.three.row (by omega)
   obtain ⟨rfl,_,rfl⟩ := Value.slice.inj hv
   obtain ⟨hpl,hb4⟩ := HPL.out wr _ hO.two
   obtain ⟨gq,oq,hqa,d0,d1,d2,d3⟩ := hpl.at hp
   subst hqa
   have hr := hO.three.row
   have cc : ∀ r,r < 4 → wr.cell? ⟨gp,i * 4 + r,none⟩ = p.cs[r]? := fun r hr4 => by
    rw [hr.cellAt _ (by omega),hQp _ (by omega)]
    exact cat_at PlE.cs 4 (fun _ => rfl) P i r p hp hr4
   obtain ⟨pi,po,px,py⟩ := p
   have c0 : wr.cell? ⟨gp,i * 4,none⟩ = some (.int .u32 (pi : Int)) := (cc 0 (by decide)).trans rfl
   have c1 : wr.cell? ⟨gp,i * 4 + 1,none⟩ = some (.bool po) := (cc 1 (by decide)).trans rfl
   have c2 : wr.cell? ⟨gp,i * 4 + 2,none⟩ = some (.int .i32 px) := (cc 2 (by decide)).trans rfl
   have c3 : wr.cell? ⟨gp,i * 4 + 3,none⟩ = some (.int .i32 py) := (cc 3 (by decide)).trans rfl
   simp only at d0 d1 d2 d3
   have blk : ∀ (f : FrOf wr) (a : Addr) (v : Value),wr.cell? a = some v → f.val.cell? a = some v := fun f a v h => (f.fr.cell (World.block_lt_of_cell? wr a h) id).trans h
   have C0 : ∀ f : FrOf wr,f.val.cell? ⟨gp,i * 4,none⟩ = some (.int .u32 (pi : Int)) := fun f => blk f _ _ c0
   have C1 : ∀ f : FrOf wr,f.val.cell? ⟨gp,i * 4 + 1,none⟩ = some (.bool po) := fun f => blk f _ _ c1
   have C2 : ∀ f : FrOf wr,f.val.cell? ⟨gp,i * 4 + 2,none⟩ = some (.int .i32 px) := fun f => blk f _ _ c2
   have C3 : ∀ f : FrOf wr,f.val.cell? ⟨gp,i * 4 + 3,none⟩ = some (.int .i32 py) := fun f => blk f _ _ c3
   have D0 : ∀ f : FrOf wr,f.val.cell? ⟨gq,oq + i * 4,none⟩ = some (.int .u32 (pi : Int)) := fun f => blk f _ _ d0
   have D1 : ∀ f : FrOf wr,f.val.cell? ⟨gq,oq + i * 4 + 1,none⟩ = some (.bool po) := fun f => blk f _ _ d1
   have D2 : ∀ f : FrOf wr,f.val.cell? ⟨gq,oq + i * 4 + 2,none⟩ = some (.int .i32 px) := fun f => blk f _ _ d2
   have D3 : ∀ f : FrOf wr,f.val.cell? ⟨gq,oq + i * 4 + 3,none⟩ = some (.int .i32 py) := fun f => blk f _ _ d3
   have B4 : ∀ f : FrOf wr,f.val.cell? ⟨bb,4,none⟩ = some (.slice (some ⟨gq,oq,none⟩) pl qc) := fun f => blk f _ _ hb4
   have HO : Hid (Own w0 wr _) := hO
   have HQP : Hid (∀ m,i * 4 ≤ m → Qp[m]? = (cat PlE.cs P)[m]?) := hQp
   clear hO hr cc c0 c1 c2 c3 d0 d1 d2 d3 hpl hb4 hp hv hQp blk
   go_wp2
   refine wp_region_fr (by kernel_rfl) (by kernel_rfl) ?_
   repeat (with_reducible refine wpQuiet_step (fun K hK => ?_)
           go_simp
           first
            | (refine hK _ ?_; clear hK K))
   refine wpQuiet_nil ?_
   rintro w' ⟨f,rfl⟩
   have hO2 := HO.out.quiet f.fr
   have fz := hO2.three.row.frozenAt (i * 4 + 2)
   have c2 := C2 f
   obtain ⟨z,hz⟩ : ∃ z,IntKind.i32.wrap (px + 1) = z := ⟨_,rfl⟩
   have HN : Hid (Own w0 _ _) := (hO2.three.setR (i * 4 + 2) (.int .i32 z)).back3
   have HQ2 : Hid (∀ m,(i + 1) * 4 ≤ m → (Qp.set (i * 4 + 2) (.int .i32 z))[m]? = (cat PlE.cs P)[m]?) := fun m hm => by
    rw [List.getElem?_set_ne (by omega)]
    exact HQP.out m (by omega)
   clear C0 C1 C2 C3 D0 D1 D2 D3 B4 HO HQP hO2
   go_wp2
   exact ⟨⟨i + 1,_,rfl,by omega,HQ2.out,HN.out⟩,by simp [intOf]; omega⟩
  ·have hlt' : ¬ (i : Int) < (pl : Int) := by omega
   have H6 : Hid (Own w0 wr (WdT ba ⟨T,σ,E,S,P⟩ K n :: RLX :: l)) := hO.sel 3 [0,1] (by decide)
   clear hO hQp HPL
   go_wp2
   refine wp_loop (fun a' wr => ∃ (j : Nat),a' = { tmps := #[.pointer (some ⟨ba,0,none⟩),.pointer (some ⟨bb,0,none⟩),gf a' 2,gf a' 3,gf a' 4,.slice la ln lc,.slice pa pl pc,gf a' 7,gf a' 8,gf a' 9,gf a' 10,gf a' 11,gf a' 12,gf a' 13,gf a' 14,gf a' 15,gf a' 16,gf a' 17,gf a' 18,gf a' 19,gf a' 20,gf a' 21,gf a' 22,gf a' 23,gf a' 24,gf a' 25,gf a' 26,gf a' 27,gf a' 28,gf a' 29,gf a' 30,gf a' 31,gf a' 32,gf a' 33,gf a' 34,gf a' 35,gf a' 36,gf a' 37,gf a' 38,gf a' 39,gf a' 40,gf a' 41,gf a' 42,gf a' 43,gf a' 44,gf a' 45,gf a' 46,gf a' 47,gf a' 48,gf a' 49,gf a' 50,gf a' 51,gf a' 52,gf a' 53,gf a' 54,gf a' 55,gf a' 56,gf a' 57,gf a' 58,gf a' 59,gf a' 60,gf a' 61,gf a' 62,gf a' 63,gf a' 64,gf a' 65,gf a' 66,gf a' 67,gf a' 68,gf a' 69,gf a' 70,gf a' 71,gf a' 72,gf a' 73,gf a' 74,gf a' 75,gf a' 76,gf a' 77,gf a' 78,gf a' 79,gf a' 80,gf a' 81,gf a' 82,gf a' 83,gf a' 84,gf a' 85,gf a' 86,gf a' 87,gf a' 88,gf a' 89,gf a' 90,gf a' 91,gf a' 92,gf a' 93,gf a' 94,.slice la ln lc,.int .i64 (ln : Int),.int .i64 (j : Int),gf a' 98,gf a' 99,gf a' 100,gf a' 101,gf a' 102,gf a' 103,gf a' 104,gf a' 105,gf a' 106,gf a' 107,gf a' 108,gf a' 109,gf a' 110,gf a' 111,gf a' 112,gf a' 113,gf a' 114,gf a' 115,gf a' 116,gf a' 117,gf a' 118,gf a' 119,gf a' 120,gf a' 121,gf a' 122,gf a' 123,gf a' 124,gf a' 125,gf a' 126,gf a' 127,gf a' 128,gf a' 129,gf a' 130,gf a' 131,gf a' 132,gf a' 133,gf a' 134,gf a' 135,gf a' 136,gf a' 137,gf a' 138,gf a' 139,gf a' 140,gf a' 141,gf a' 142,gf a' 143,gf a' 144,gf a' 145,gf a' 146,gf a' 147,gf a' 148,gf a' 149,gf a' 150,gf a' 151,gf a' 152,gf a' 153,gf a' 154,gf a' 155,gf a' 156,gf a' 157,gf a' 158,gf a' 159,gf a' 160,gf a' 161,gf a' 162,gf a' 163,gf a' 164],defers := [] } ∧ j ≤ ln ∧ Own w0 wr (WdT ba ⟨T,σ,E,S,P⟩ K n :: RLX :: l)) (fun a' _ => ln - (intOf (a'.tmps.getD 97 undef)).toNat) ?_ ?_
   ·exact ⟨0,rfl,Nat.zero_le _,H6.out⟩
   ·intro a' wr hI
    obtain ⟨j,hact,hj,hO⟩ := hI
    obtain ⟨u2,hu⟩ : ∃ u2 : Nat → Value,∀ k,gf a' k = u2 k := ⟨_,fun _ => rfl⟩
    simp only [hu] at hact
    clear hu
    subst hact
    clear H6
    by_cases hjl : j < ln
    ·have hjl' : (j : Int) < (ln : Int) := by omega
     obtain ⟨y,hy⟩ : ∃ y,(seeL σ xs)[j]? = some y := ⟨_,List.getElem?_eq_getElem (by rw [seeL_len,HL2.out]; exact hjl)⟩
     obtain ⟨ga,oa,hla,c0,c1,hcs⟩ := (HSE.out wr _ hO.two).at hy
     subst hla
     obtain ⟨hyin,hyC⟩ := seeL_in HX.out Hσ.out (List.mem_of_getElem? hy)
     have hy32 := (St.list_w Hσ.out.s hyin).2
     have hy6 : (σ.cps y.id).length ≤ 6 := by
      obtain ⟨r,C,hr,he,hC,_⟩ := Hσ.out.ent (St.list_w Hσ.out.s hyin).1
      rw [Sto.cps_of hr he]
      exact lst_len6 hC
     have HIN : Hid (y.id ∈ σ.S.list) := hyin
     have hB := hO.allocC #[.int .u32 (y.id : Int),.slice y.ao y.C.length y.cap] 76
     have HCS : Hid (∀ W l',Own w0 W (WdT ba ⟨T,σ,E,S,P⟩ K n :: RLX :: l') → Cs W y.ao y.C) := fun W l' hW => ((HSE.out W _ hW.two).2 y (List.mem_of_getElem? hy))
     have HYC : Hid (y.C = σ.cps y.id) := hyC
     obtain ⟨be,hbe⟩ : ∃ be,wr.heap.size = be := ⟨_,rfl⟩
     rw [hbe] at hB
     have HB : Hid (Own w0 _ (WdT ba ⟨T,σ,E,S,P⟩ K n :: RLX :: Cells be #[.int .u32 (y.id : Int),.slice y.ao y.C.length y.cap] 76 :: l)) := hB.sel 3 [1,2,0] (by decide)
     clear hO hB hcs hy hyin hyC
     obtain ⟨xi,xa,xc,C⟩ := y
     simp only at c0 c1 hy32 hy6 HIN HCS HYC HB
     have HE1 : Hid (Calls _ _ _ _ _) := HEN.out _ _ xi HIN.out HB.out
     obtain ⟨cl,hcl⟩ : ∃ cl,(σ.cps xi).length = cl := ⟨_,rfl⟩
     have hcl2 : C.length = cl := by rw [HYC.out]; exact hcl
     have HCLN : Hid (C.length = cl ∧ (σ.cps xi).length = cl) := ⟨hcl2,hcl⟩
     rw [hcl] at HE1 hy6
     rw [hcl2] at c1 HB HE1
     have e0 := HB.out.three.cell 0
     simp at e0
     clear hcl hcl2
     go_wp2_with fail
     refine HE1.out.mono ?_
     rintro e w6 ⟨ao2,cap2,rfl,hO⟩
     have hB2 := hO.allocC #[.int .u32 (xi : Int),.slice ao2 cl cap2] 76
     have HB2 : Hid (Own w0 _ _) := hB2.sel 5 [2,3,4,1,0] (by decide)
     have g0 := hB2.five.cell 0
     have g1 := hB2.five.cell 1
     have k0 := hB2.cell 0
     have k1 := hB2.cell 1
     simp at g0 g1 k0 k1
     have hf6 := (Own.rcs hB2.two HCLN.out.2)
     have HS2 : Hid (Calls _ _ _ _ _) := sameEnt_any _ xi ao2 xa cl cap2 xc (σ.cps xi) hf6 (by rw [← HYC.out]; exact HCS.out _ _ HB2.out) HCLN.out.2 (by omega)
     clear hO hB2 HE1 c0 c1 hf6 e0
     go_wp2_with fail
     refine HS2.out.mono ?_
     rintro e w7 ⟨rfl,hf⟩
     have hO7 := HB2.out.quiet hf
     have g0' := hO7.three.cell 0
     simp at g0'
     have HL1 : Hid (Calls _ _ _ _ _) := HLV.out w7 _ xi HIN.out hO7
     clear hf HS2 HB2 g0 g1 k0 k1
     go_wp2_with fail
     refine HL1.out.mono ?_
     rintro e w8 ⟨rfl,hO⟩
     have H8 : Hid (Own w0 w8 (WdT ba ⟨T,σ,E,S,P⟩ K n :: RLX :: Cells be #[.int .u32 (xi : Int),.slice xa cl xc] 76 :: l)) := hO.sel 5 [0,1,2] (by decide)
     clear hO HL1 hO7 g0'
     go_wp2
     refine wp_loop (fun a' wr => ∃ (k : Nat),a' = { tmps := #[.pointer (some ⟨ba,0,none⟩),.pointer (some ⟨bb,0,none⟩),gf a' 2,gf a' 3,gf a' 4,.slice (some ⟨ga,oa,none⟩) ln lc,.slice pa pl pc,gf a' 7,gf a' 8,.pointer (some ⟨be,0,none⟩),gf a' 10,gf a' 11,gf a' 12,gf a' 13,gf a' 14,gf a' 15,gf a' 16,gf a' 17,gf a' 18,gf a' 19,gf a' 20,gf a' 21,gf a' 22,gf a' 23,gf a' 24,gf a' 25,gf a' 26,gf a' 27,gf a' 28,gf a' 29,gf a' 30,gf a' 31,gf a' 32,gf a' 33,gf a' 34,gf a' 35,gf a' 36,gf a' 37,gf a' 38,gf a' 39,gf a' 40,gf a' 41,gf a' 42,gf a' 43,gf a' 44,gf a' 45,gf a' 46,gf a' 47,gf a' 48,gf a' 49,gf a' 50,gf a' 51,gf a' 52,gf a' 53,gf a' 54,gf a' 55,gf a' 56,gf a' 57,gf a' 58,gf a' 59,gf a' 60,gf a' 61,gf a' 62,gf a' 63,gf a' 64,gf a' 65,gf a' 66,gf a' 67,gf a' 68,gf a' 69,gf a' 70,gf a' 71,gf a' 72,gf a' 73,gf a' 74,gf a' 75,gf a' 76,gf a' 77,gf a' 78,gf a' 79,gf a' 80,gf a' 81,gf a' 82,gf a' 83,gf a' 84,gf a' 85,gf a' 86,gf a' 87,gf a' 88,gf a' 89,gf a' 90,gf a' 91,gf a' 92,gf a' 93,gf a' 94,.slice (some ⟨ga,oa,none⟩) ln lc,.int .i64 (ln : Int),.int .i64 (j : Int),gf a' 98,gf a' 99,gf a' 100,gf a' 101,gf a' 102,gf a' 103,gf a' 104,gf a' 105,gf a' 106,gf a' 107,gf a' 108,gf a' 109,gf a' 110,gf a' 111,gf a' 112,gf a' 113,gf a' 114,gf a' 115,gf a' 116,gf a' 117,gf a' 118,gf a' 119,gf a' 120,gf a' 121,gf a' 122,.int .u8 (k : Int),gf a' 124,gf a' 125,gf a' 126,gf a' 127,gf a' 128,gf a' 129,gf a' 130,gf a' 131,gf a' 132,gf a' 133,gf a' 134,gf a' 135,gf a' 136,gf a' 137,gf a' 138,gf a' 139,gf a' 140,gf a' 141,gf a' 142,gf a' 143,gf a' 144,gf a' 145,gf a' 146,gf a' 147,gf a' 148,gf a' 149,gf a' 150,gf a' 151,gf a' 152,gf a' 153,gf a' 154,gf a' 155,gf a' 156,gf a' 157,gf a' 158,gf a' 159,gf a' 160,gf a' 161,gf a' 162,gf a' 163,gf a' 164],defers := [] } ∧ k ≤ 7 ∧ Own w0 wr (WdT ba ⟨T,σ,E,S,P⟩ K n :: RLX :: Cells be #[.int .u32 (xi : Int),.slice xa cl xc] 76 :: l)) (fun a' _ => 7 - (intOf (a'.tmps.getD 123 undef)).toNat) ?_ ?_
     ·exact ⟨0,rfl,Nat.zero_le _,H8.out⟩
     ·intro a' wr hI
      obtain ⟨k,hact,hk,hO⟩ := hI
      obtain ⟨u3,hu⟩ : ∃ u3 : Nat → Value,∀ k,gf a' k = u3 k := ⟨_,fun _ => rfl⟩
      simp only [hu] at hact
      clear hu
      subst hact
      clear H8
      by_cases hk7 : k < 7
      ·have hk7' : (k : Int) < 7 := by omega
       have e0 := hO.three.cell 0
       simp at e0
       have HC1 : Hid (Calls _ _ _ _ _) := HCG.out wr _ xi k HIN.out (by omega) hO
       clear hO
       generalize hgc : gcp σ xi k = gc at *
       go_wp2_with fail
       refine HC1.out.mono ?_
       rintro e w9 ⟨rfl,hO⟩
       have e1 := hO.three.cell 0
       simp at e1
       have HC2 : Hid (Calls _ _ _ _ _) := HGT.out w9 _ xi k (by omega) hO.two
       rw [hgc] at HC2
       have HO9 : Hid (Own w0 w9 _) := hO
       clear hO HC1 e0 hgc
       cases gc with
       | none =>
        unfold gag at HC2
        simp only [Option.getD_none,Option.isSome_none,Cp.ag] at HC2
        go_wp2_with fail
        refine HC2.out.mono ?_
        rintro e w10 ⟨rfl,hf⟩
        have hO10 := (HO9.out.quiet hf).allocC #[.int .u8 0,.int .i32 0,.int .i32 0,.int .i32 0] 46
        have e2 := hO10.four.cell 0
        simp at e2
        have HC3 : Hid (Calls _ _ _ _ _) := HCH.out _ _ xi k hO10.three
        have HO10 : Hid (Own w0 _ _) := hO10.sel 4 [1,2,3] (by decide)
        clear hf HC2 HO9 hO10 e1
        generalize chgM M xi k = tg at *
        go_wp2_with fail
        refine HC3.out.mono ?_
        rintro e w11 ⟨rfl,hf⟩
        have H11 : Hid (Own w0 w11 _) := HO10.out.quiet hf
        clear hf HC3 HO10 e2
        go_wp2
        exact ⟨⟨k + 1,rfl,by omega,H11.out⟩,by simp [intOf]; omega⟩
       | some c =>
        obtain ⟨ck,ca,cb,cd⟩ := c
        unfold gag at HC2
        simp only [Option.getD_some,Option.isSome_some,Cp.ag] at HC2
        go_wp2_with fail
        refine HC2.out.mono ?_
        rintro e w10 ⟨rfl,hf⟩
        have hO10 := (HO9.out.quiet hf).allocC #[.int .u8 (ck : Int),.int .i32 ca,.int .i32 cb,.int .i32 cd] 46
        have e2 := hO10.four.cell 0
        simp at e2
        have HC3 : Hid (Calls _ _ _ _ _) := HCH.out _ _ xi k hO10.three
        have HO10 : Hid (Own w0 _ _) := hO10.sel 4 [1,2,3] (by decide)
        clear hf HC2 HO9 hO10 e1
        generalize chgM M xi k = tg at *
        go_wp2_with fail
        refine HC3.out.mono ?_
        rintro e w11 ⟨rfl,hf⟩
        have H11 : Hid (Own w0 w11 _) := HO10.out.quiet hf
        clear hf HC3 HO10 e2
        go_wp2
        exact ⟨⟨k + 1,rfl,by omega,H11.out⟩,by simp [intOf]; omega⟩
      ·have hk7' : ¬ (k : Int) < 7 := by omega
       have H9 : Hid (Own w0 wr (WdT ba ⟨T,σ,E,S,P⟩ K n :: RLX :: l)) := hO.sel 3 [0,1] (by decide)
       clear hO
       go_wp2
       exact ⟨⟨j + 1,rfl,by omega,H9.out⟩,by simp [intOf]; omega⟩
    ·have hjl' : ¬ (j : Int) < (ln : Int) := by omega
     have H9 : Hid (Own w0 wr _) := HCL.out wr l hO
     clear hO
     go_wp2
     go_ret
     exact ⟨rfl,H9.out⟩
end Go.Proofs.YtogmdoiecpihdaaGreatDoor
