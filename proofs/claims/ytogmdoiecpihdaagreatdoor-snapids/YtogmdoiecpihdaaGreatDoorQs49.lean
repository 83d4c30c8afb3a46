/- The document's world: a step. -/
import Derived.Test.YtogmdoiecpihdaaGreatDoorQs46
import Derived.Deep.RegionHeld3
import Derived.Deep.CutBlock
namespace Go.Proofs.YtogmdoiecpihdaaGreatDoor
open Go.RowKit Go.Maps
set_option linter.unusedVariables false
set_option maxHeartbeats 32000000
set_option maxRecDepth 100000
theorem seeL_get {σ:Sto} {x:RX} {K:Nat} (hx:RXok σ x K) (hσ:σ.Ok) {i:Nat} {y:EnE} (h:(seeL σ x)[i]? = some y):σ.S.list[i]? = some y.id:=by
 unfold seeL at h
 rw [List.getElem?_map,List.getElem?_map] at h
 cases hl:σ.S.list[i]? with
 | none=>rw [hl] at h;simp at h
 | some id =>
  rw [hl] at h
  simp only [Option.map_some] at h
  obtain ⟨_,h1,h2,_⟩:=hx.at hσ (St.list_w hσ.s (List.mem_of_getElem? hl)).1
  injection h with h
  rw [← h]
  exact congrArg some h1.symm
theorem inBlock_then (id:Nat) (K:Act→World→Prop) (Q:Exit→Act→World→Prop):Exit.inBlock id (Exit.then K Q)=Exit.then K (Exit.inBlock id (Exit.then K Q)):=by
 funext e a w
 cases e <;> rfl
theorem fst_in {C:List Cp} {k:Nat} {c:Cp} (h:fst C k=some c):c.k=k:=by
 unfold fst at h
 simpa using List.find?_some h
theorem Own.ordsR {w0 w:World} {l:List Thing} {ao:Option Addr} {n cap:Nat} {E:List OrdE} (h:Own w0 w (WtT (.slice ao n cap) E::l)) (hn:E.length=n):Ords w ao E:=by
 have h1:=h.wtO
 rw [hn] at h1
 exact Own.ordsW h1 hn
def KeepT (wa:Option Addr) (wc b2:Nat) (σ:Sto) (x2:RX) (na:Option Addr) (nc bs:Nat) (σ4:Sto) (x4:RX) (mv:Value) (ml:Nat) (M:List MkE) (rv:Value) (el:Nat) (RR:List (Int × Nat)):Thing:=Ex (fun _:Unit=>[SeeT wa wc b2 σ x2,SeeT na nc bs σ4 x4,Row 121 3 mv ml (cat MkE.cs M),Row 89 2 rv el (cat rcel RR)])
theorem Own.keepO {w0 w:World} {l:List Thing} {wa na:Option Addr} {wc b2 nc bs ml el:Nat} {σ σ4:Sto} {x2 x4:RX} {mv rv:Value} {M:List MkE} {RR:List (Int × Nat)} (h:Own w0 w (KeepT wa wc b2 σ x2 na nc bs σ4 x4 mv ml M rv el RR::l)):Own w0 w (SeeT wa wc b2 σ x2::SeeT na nc bs σ4 x4::Row 121 3 mv ml (cat MkE.cs M)::Row 89 2 rv el (cat rcel RR)::l):=by
 obtain ⟨_,h⟩:=Own.ex_iff.1 h
 exact h
theorem allW_len (L:List EnE) (h:∀ y∈L,y.C.length≤6):(allW L).length≤6*L.length:=by
 induction L with
 | nil=>simp [allW]
 | cons y L ih =>
  have h1:=h y List.mem_cons_self
  have h2:=ih (fun z hz=>h z (List.mem_cons_of_mem _ hz))
  unfold allW at h2 ⊢
  rw [List.flatMap_cons,List.length_append,List.length_map,List.length_cons]
  omega
theorem allW_see {σ:Sto} {x:RX} {K:Nat} (hx:RXok σ x K) (hσ:σ.Ok):allW (seeL σ x)=allS σ:=by
 refine allW_S ?_
 unfold seeL
 rw [List.map_map,List.map_map]
 refine List.map_congr_left (fun id hid=>?_)
 obtain ⟨_,h1,h2,_⟩:=hx.at hσ (St.list_w hσ.s hid).1
 show ((x.at σ id).1,(x.at σ id).2.1)=_
 rw [h1,h2]
theorem rstep15 (w0 w:World) (l:List Thing) (b K:Nat) (x:RWd) (h:Own w0 w (RWdT b x K::l)) (hσ:x.σ.Ok) (hK:K≤90000) (hT:x.T < 4294967295) (hE:x.E.length≤1000) (hEI:∀ o∈x.E,o.In) (hM:x.M.length≤10000) :
  Calls Tryz.prog 16 #[.pointer (some ⟨b,0,none⟩)] w fun e w'=>∃ (ra:Option Addr) (rc:Nat),e=.returned (.tuple #[.slice ra x.E.length rc,.int .i64 0])∧(x.next K).σ.Ok∧Own w0 w' (Row 89 2 (.slice ra x.E.length rc) x.E.length (cat rcel (runs stq (x.σ,K) x.E).1)::RWdT b (x.next K) (K+2*x.E.length+3072)::l):=by
 obtain ⟨bs,wv,mv,pv,h⟩:=h.rwO
 obtain ⟨va,vc,hwv⟩:=row_any (h.three.wtO).row
 subst hwv
 obtain ⟨xs,hxs,h1⟩:=RSto.opn h
 have q0:=h.two.cell 0
 have q1:=h.two.cell 1
 have q2:=h.two.cell 2
 simp [rwcs] at q0 q1 q2
 have HTW:Hid (Calls _ _ _ _ _):=rtwin11 w0 w _ bs x.σ K xs h1 hxs hσ (by omega)
 obtain ⟨T,σ,E,M,P⟩:=x
 simp only at h h1 hσ hT hE hEI hM HTW hxs q0 q1 q2 ⊢
 have HXS:Hid (RXok σ xs K):=hxs
 have Hσ:Hid (σ.Ok):=hσ
 have HEI:Hid (∀ o∈E,o.In):=hEI
 obtain ⟨el,hel⟩:∃ el,E.length=el:=⟨_,rfl⟩
 have HEL:Hid (E.length=el):=hel
 obtain ⟨ml,hml⟩:∃ ml,M.length=ml:=⟨_,rfl⟩
 have HML:Hid (M.length=ml):=hml
 rw [hel] at hE q1 ⊢
 rw [hml] at hM
 rw [hel,hml] at HTW
 have hT2:((T:Int) == 4294967295)=false:=by rw [beq_eq_false_iff_ne];omega
 have HNX:Hid (RWd.next ⟨T,σ,E,M,P⟩ K=⟨T+1,(runs stq (σ,K) E).2.1.sys,[],(allS (runs stq (σ,K) E).2.1.sys).map (mkA σ M (T+1)),σ.S.list.foldl (plB σ (runs stq (σ,K) E).2.1.sys) ((allS (runs stq (σ,K) E).2.1.sys).foldl (plA σ) [])⟩):=rfl
 clear h h1 hxs hσ hEI hel hml
 go_enter Tryz.func16,Tryz.ntmps16
 go_wp2_with fail
 refine HTW.out.mono ?_
 rintro e w1 ⟨b2,x2,rfl,hx2,hO⟩
 have hLV:∀ id∈σ.S.list,σ.S.isLive id=true:=fun id hid=>(St.list_w Hσ.out.s hid).1
 have HLI:Hid (Calls _ _ _ _ _):=rlistS w0 w1 _ b2 σ K x2 hO hx2 Hσ.out (by omega) hLV
 have HX2:Hid (RXok σ x2 K):=hx2
 clear hO HTW hx2 hLV
 obtain ⟨wn,hwn⟩:∃ wn,σ.S.list.length=wn:=⟨_,rfl⟩
 have HWN:Hid (σ.S.list.length=wn):=hwn
 have hwn2:wn≤1024:=by rw [← hwn];exact list_lenW Hσ.out.s
 rw [hwn] at HLI
 clear hwn
 go_wp2_with fail
 refine HLI.out.mono ?_
 rintro e w2 ⟨wa,wc,rfl,hO⟩
 rw [← HWN.out] at hO
 have hS:=hO.seeS
 have hS2:Own w0 w2 (Cells b (rwcs bs (.slice va el vc) T mv pv) 109::SeeT wa wc b2 σ x2::RSX bs σ.S xs::WtT (.slice va el vc) E::Row 121 3 mv ml (cat MkE.cs M)::Row 126 4 pv P.length (cat PlE.cs P)::l):=hS.sel 6 [2,0,1,3,4,5] (by decide)
 have p0:=hS2.cell 0
 have p1:=hS2.cell 1
 have p2:=hS2.cell 2
 simp [rwcs] at p0 p1 p2
 have y1:=hS2.froz 1
 have y2:=hS2.froz 2
 have hS3:=(hS2.setC 2 (.int .u32 ((T:Int)+1))).setC 1 (.slice none 0 0)
 have hcc:((rwcs bs (.slice va el vc) T mv pv).setIfInBounds 2 (.int .u32 ((T:Int)+1))).setIfInBounds 1 (.slice none 0 0)=rwcs bs (.slice none 0 0) (T+1) mv pv:=by simp [rwcs]
 rw [hcc] at hS3
 have hS4:=hS3.sel 6 [2,3,0,1,4,5] (by decide)
 have HA:Hid (∀ W,Own w0 W (RSX bs σ.S xs::WtT (.slice va el vc) E::Cells b (rwcs bs (.slice none 0 0) (T+1) mv pv) 109::SeeT wa wc b2 σ x2::Row 121 3 mv ml (cat MkE.cs M)::Row 126 4 pv P.length (cat PlE.cs P)::l)→Calls Tryz.prog 54 #[.pointer (some ⟨bs,0,none⟩),.slice va el vc] W fun e w'=>∃ ra rc,e=.returned (.slice ra el rc)∧Own w0 w' (Row 89 2 (.slice ra el rc) el (cat rcel (runs stq (σ,K) E).1)::RSto bs (runs stq (σ,K) E).2.1 (runs stq (σ,K) E).2.2::WtT (.slice va el vc) E::Cells b (rwcs bs (.slice none 0 0) (T+1) mv pv) 109::SeeT wa wc b2 σ x2::Row 121 3 mv ml (cat MkE.cs M)::Row 126 4 pv P.length (cat PlE.cs P)::l)∧(runs stq (σ,K) E).2.1.Ok∧(runs stq (σ,K) E).2.2=K+2*el):=fun W hW=>rdo_allR w0 W _ bs (σ,K) (RSto.mk HXS.out hW) Hσ.out va el vc E HEL.out hE (by show K≤_;omega) HEI.out (fun w' hw'=>hw'.ordsR HEL.out)
 have HS4:Hid (Own w0 _ _):=hS4
 have q3:=hS3.cell 0
 simp [rwcs] at q3
 clear hO hS hS2 hS3 hS4 hcc HLI HXS HEI q0 q1 q2
 go_wp2_with fail
 refine (HA.out _ HS4.out).mono ?_
 rintro e w3 ⟨ra,rc,rfl,hO,hok,hK3⟩
 have HOK1:Hid ((runs stq (σ,K) E).2.1.Ok):=hok
 generalize hσ1:(runs stq (σ,K) E).2.1=σ1 at *
 generalize hRR:(runs stq (σ,K) E).1=RR at *
 have hK1:(runs stq (σ,K) E).2.2=K+2*el:=hK3
 rw [hK1] at hO
 have hO1:Own w0 w3 (RSto bs σ1 (K+2*el)::Cells b (rwcs bs (.slice none 0 0) (T+1) mv pv) 109::SeeT wa wc b2 σ x2::Row 121 3 mv ml (cat MkE.cs M)::Row 126 4 pv P.length (cat PlE.cs P)::Row 89 2 (.slice ra el rc) el (cat rcel RR)::l):=hO.sel 7 [1,3,4,5,6,0] (by decide)
 have q0:=hO1.two.cell 0
 simp [rwcs] at q0
 have HMV:Hid (Calls _ _ _ _ _):=rmove_ok w0 w3 _ bs σ1 (K+2*el) hO1 HOK1.out (by omega)
 have HOK2:Hid ((σ1.mvs (σ1.find 3 0)).1.Ok):=(Sto.mvs_inv HOK1.out (σ1.find 3 0)).1
 have HSY:Hid (σ1.sys=((((σ1.mvs (σ1.find 3 0)).1.ags ((σ1.mvs (σ1.find 3 0)).1.find 4 0)).1.brs ((((σ1.mvs (σ1.find 3 0)).1.ags ((σ1.mvs (σ1.find 3 0)).1.find 4 0)).1).find 33 0)).1)):=rfl
 clear hO hO1 hK3 hok HA HS4 hK1 p0 p1 p2 y1 y2 q3
 generalize (σ1.mvs (σ1.find 3 0)).2=mvL at *
 generalize (σ1.mvs (σ1.find 3 0)).1=σ2 at *
 go_wp2_with fail
 refine HMV.out.mono ?_
 rintro e w4 ⟨ja,jc,rfl,hO⟩
 have hO1:=hO.tail
 have q0:=hO1.two.cell 0
 simp [rwcs] at q0
 have HAG:Hid (Calls _ _ _ _ _):=rage_ok w0 w4 _ bs σ2 _ hO1 HOK2.out (by omega)
 have HOK3:Hid ((σ2.ags (σ2.find 4 0)).1.Ok):=(Sto.ags_inv HOK2.out _ (find_nodup HOK2.out 4 0) (find_live HOK2.out 4 0)).1
 clear hO hO1 HMV
 generalize (σ2.ags (σ2.find 4 0)).2=agL at *
 generalize (σ2.ags (σ2.find 4 0)).1=σ3 at *
 go_wp2_with fail
 refine HAG.out.mono ?_
 rintro e w5 ⟨ka,kc,rfl,hO⟩
 have hO1:=hO.tail
 have q0:=hO1.two.cell 0
 simp [rwcs] at q0
 have HBR:Hid (Calls _ _ _ _ _):=rbreed_ok w0 w5 _ bs σ3 _ hO1 HOK3.out (by omega)
 have HOK4:Hid ((σ3.brs (σ3.find 33 0)).1.Ok):=(Sto.brs_inv HOK3.out _).1
 clear hO hO1 HAG
 generalize (σ3.brs (σ3.find 33 0)).2=brL at *
 generalize (σ3.brs (σ3.find 33 0)).1=σ4 at *
 go_wp2_with fail
 refine HBR.out.mono ?_
 rintro e w6 ⟨la,lc,rfl,hO⟩
 have hO1:=hO.tail
 have q0:=hO1.two.cell 0
 simp [rwcs] at q0
 obtain ⟨x4,hx4,hO2⟩:=RSto.opn hO1
 have HX4:Hid (RXok σ4 x4 (K+2*el+1024+1024+1024)):=hx4
 have HLI:Hid (Calls _ _ _ _ _):=rlistS w0 w6 _ bs σ4 _ x4 hO2 hx4 HOK4.out (by omega) (fun id hid=>(St.list_w HOK4.out.s hid).1)
 clear hO hO1 hO2 hx4 HBR
 obtain ⟨nn,hnn⟩:∃ nn,σ4.S.list.length=nn:=⟨_,rfl⟩
 have HNN:Hid (σ4.S.list.length=nn):=hnn
 have hnn2:nn≤1024:=by rw [← hnn];exact list_lenW HOK4.out.s
 rw [hnn] at HLI
 clear hnn
 go_wp2_with fail
 refine HLI.out.mono ?_
 rintro e w7 ⟨na,nc,rfl,hO⟩
 rw [← HNN.out] at hO
 have hS:=hO.seeS
 have hS2:Own w0 w7 (Cells b (rwcs bs (.slice none 0 0) (T+1) mv pv) 109::SeeT wa wc b2 σ x2::SeeT na nc bs σ4 x4::Row 121 3 mv ml (cat MkE.cs M)::Row 89 2 (.slice ra el rc) el (cat rcel RR)::l):=hS.sel 6 [1,2,0,3,5] (by decide)
 have p4:=hS2.cell 4
 have y4:=hS2.froz 4
 simp [rwcs] at p4
 have hS3:=hS2.setC 4 (.slice none 0 0)
 have hcc:(rwcs bs (.slice none 0 0) (T+1) mv pv).setIfInBounds 4 (.slice none 0 0)=rwcs bs (.slice none 0 0) (T+1) mv (.slice none 0 0):=by simp [rwcs]
 rw [hcc] at hS3
 have HS3:Hid (Own w0 _ _):=hS3
 clear hO hS hS2 hS3 hcc HLI q0
 go_wp2
 have hmr:=(HS3.out.four).row
 obtain ⟨mva,mvc,hmv⟩:=row_any hmr
 subst hmv
 have hS5:Own w0 _ (KeepT wa wc b2 σ x2 na nc bs σ4 x4 (.slice mva ml mvc) ml M (.slice ra el rc) el RR::Cells b (rwcs bs (.slice none 0 0) (T+1) (.slice mva ml mvc) (.slice none 0 0)) 109::l):=Own.ex_iff.2 ⟨(),HS3.out.sel 5 [1,2,3,4,0] (by decide)⟩
 have hS6:=(hS5.nilRow 126 4).nilRow 121 3
 have HS6:Hid (Own w0 _ (Cells b (rwcs bs (.slice none 0 0) (T+1) (.slice mva ml mvc) (.slice none 0 0)) 109::Row 121 3 (.slice none 0 0) 0 []::Row 126 4 (.slice none 0 0) 0 []::KeepT wa wc b2 σ x2 na nc bs σ4 x4 (.slice mva ml mvc) ml M (.slice ra el rc) el RR::l)):=hS6.sel 4 [3,0,1,2] (by decide)
 have HGW:Hid (∀ W l' (id k:Nat),k < 256→Own w0 W (KeepT wa wc b2 σ x2 na nc bs σ4 x4 (.slice mva ml mvc) ml M (.slice ra el rc) el RR::l')→Calls Tryz.prog 58 #[.slice wa wn wc,.int .u32 (id:Int),.int .u8 (k:Int)] W fun e w'=>e=.returned (gag (gcp σ id k))∧Fr Nobody W w'):=fun W l' id k hk hW=>rget_see hW.keepO HX2.out Hσ.out HWN.out.symm id k hk
 have HGN:Hid (∀ W l' (id k:Nat),k < 256→Own w0 W (KeepT wa wc b2 σ x2 na nc bs σ4 x4 (.slice mva ml mvc) ml M (.slice ra el rc) el RR::l')→Calls Tryz.prog 58 #[.slice na nn nc,.int .u32 (id:Int),.int .u8 (k:Int)] W fun e w'=>e=.returned (gag (gcp σ4 id k))∧Fr Nobody W w'):=fun W l' id k hk hW=>rget_see hW.keepO.two HX4.out HOK4.out HNN.out.symm id k hk
 have HCH:Hid (∀ W l' (id k:Nat),W.cell? ⟨b,3,none⟩=some (.slice mva ml mvc)→Own w0 W (KeepT wa wc b2 σ x2 na nc bs σ4 x4 (.slice mva ml mvc) ml M (.slice ra el rc) el RR::l')→Calls Tryz.prog 59 #[.pointer (some ⟨b,0,none⟩),.int .u32 (id:Int),.int .u8 (k:Int)] W fun e w'=>e=.returned (.int .u32 (chgM M id k:Int))∧Fr Nobody W w'):=fun W l' id k hq hW=>rchanged15 W b mva ml mvc M hq (mks_row hW.keepO.three.row HML.out) HML.out (by omega) id k
 have HNE:Hid (∀ W l',Own w0 W (KeepT wa wc b2 σ x2 na nc bs σ4 x4 (.slice mva ml mvc) ml M (.slice ra el rc) el RR::l')→EntsAt W na (seeL σ4 x4)):=fun W l' hW=>hW.keepO.two.see HX4.out HOK4.out
 have HWE:Hid (∀ W l',Own w0 W (KeepT wa wc b2 σ x2 na nc bs σ4 x4 (.slice mva ml mvc) ml M (.slice ra el rc) el RR::l')→EntsAt W wa (seeL σ x2)):=fun W l' hW=>hW.keepO.see HX2.out Hσ.out
 have HNI:Hid (∀ y∈seeL σ4 x4,y.id < 4294967296∧y.C.length≤6∧∀ q∈y.C,q.k < 256):=fun y hy=>by
  obtain ⟨h1,h2⟩:=seeL_in HX4.out HOK4.out hy
  obtain ⟨r,C,hr,he,hC,_⟩:=HOK4.out.ent (St.list_w HOK4.out.s h1).1
  rw [h2,Sto.cps_of hr he]
  exact ⟨(St.list_w HOK4.out.s h1).2,lst_len6 hC,lst_k hC⟩
 have HNL:Hid ((seeL σ4 x4).length=nn∧allW (seeL σ4 x4)=allS σ4):=⟨by rw [seeL_len];exact HNN.out,allW_see HX4.out HOK4.out⟩
 obtain ⟨i1,hi1,hy0,hy1,hy2⟩:=info3w Tryz.infoMk
 have eqa:=eq_a3w 9997
 clear hmr hS5 hS6 HS3
 generalize w7.setCell ⟨b,4,none⟩ (.slice none 0 0)=W7 at *
 clear p4 y4
 refine wp_loop (fun a' wr=>∃ (i mn mc pn pc:Nat) (ma pa:Option Addr),a'={ tmps:=#[.pointer (some ⟨b,0,none⟩),gf a' 1,gf a' 2,gf a' 3,.slice wa wn wc,gf a' 5,.slice ra el rc,.slice na nn nc,.slice ma mn mc,gf a' 9,gf a' 10,gf a' 11,gf a' 12,gf a' 13,gf a' 14,gf a' 15,gf a' 16,gf a' 17,gf a' 18,gf a' 19,gf a' 20,gf a' 21,gf a' 22,gf a' 23,gf a' 24,gf a' 25,gf a' 26,gf a' 27,gf a' 28,gf a' 29,gf a' 30,gf a' 31,gf a' 32,gf a' 33,gf a' 34,gf a' 35,gf a' 36,gf a' 37,gf a' 38,gf a' 39,gf a' 40,gf a' 41,gf a' 42,gf a' 43,gf a' 44,gf a' 45,gf a' 46,gf a' 47,gf a' 48,gf a' 49,gf a' 50,gf a' 51,gf a' 52,gf a' 53,gf a' 54,gf a' 55,gf a' 56,gf a' 57,gf a' 58,gf a' 59,gf a' 60,gf a' 61,gf a' 62,gf a' 63,gf a' 64,gf a' 65,gf a' 66,gf a' 67,gf a' 68,gf a' 69,gf a' 70,gf a' 71,gf a' 72,gf a' 73,gf a' 74,gf a' 75,gf a' 76,gf a' 77,.slice na nn nc,.int .i64 (nn:Int),.int .i64 (i:Int),gf a' 81,gf a' 82,gf a' 83,gf a' 84,gf a' 85,gf a' 86,gf a' 87,gf a' 88,gf a' 89,gf a' 90,gf a' 91,gf a' 92,gf a' 93,gf a' 94,gf a' 95,gf a' 96,gf a' 97,gf a' 98,gf a' 99,gf a' 100,gf a' 101,gf a' 102,gf a' 103,gf a' 104,gf a' 105,gf a' 106,gf a' 107,gf a' 108,gf a' 109,gf a' 110,gf a' 111,gf a' 112,gf a' 113,gf a' 114,gf a' 115,gf a' 116,gf a' 117,gf a' 118,gf a' 119,gf a' 120,gf a' 121,gf a' 122,gf a' 123,gf a' 124,gf a' 125,gf a' 126,gf a' 127,gf a' 128,gf a' 129,gf a' 130,gf a' 131,gf a' 132,gf a' 133,gf a' 134,gf a' 135,gf a' 136,gf a' 137,gf a' 138,gf a' 139,gf a' 140,gf a' 141,gf a' 142,gf a' 143,gf a' 144,gf a' 145,gf a' 146,gf a' 147,gf a' 148,gf a' 149,gf a' 150,gf a' 151,gf a' 152,gf a' 153,gf a' 154,gf a' 155,gf a' 156,gf a' 157,gf a' 158,gf a' 159,gf a' 160,gf a' 161,gf a' 162,gf a' 163,gf a' 164,gf a' 165,gf a' 166,gf a' 167,gf a' 168,gf a' 169,gf a' 170,gf a' 171,gf a' 172,gf a' 173,gf a' 174,gf a' 175,gf a' 176,gf a' 177,gf a' 178,gf a' 179,gf a' 180,gf a' 181,gf a' 182,gf a' 183,gf a' 184,gf a' 185,gf a' 186,gf a' 187,gf a' 188],defers:=[] }∧i≤nn∧mn=(allW ((seeL σ4 x4).take i)).length∧pn=((allW ((seeL σ4 x4).take i)).foldl (plA σ) []).length∧Own w0 wr (Cells b (rwcs bs (.slice none 0 0) (T+1) (.slice mva ml mvc) (.slice pa pn pc)) 109::Row 121 3 (.slice ma mn mc) mn (cat MkE.cs ((allW ((seeL σ4 x4).take i)).map (mkA σ M (T+1))))::Row 126 4 (.slice pa pn pc) pn (cat PlE.cs ((allW ((seeL σ4 x4).take i)).foldl (plA σ) []))::KeepT wa wc b2 σ x2 na nc bs σ4 x4 (.slice mva ml mvc) ml M (.slice ra el rc) el RR::l)) (fun a' _=>nn - (intOf (a'.tmps.getD 80 undef)).toNat) ?_ ?_
 ·exact ⟨0,0,0,0,0,none,none,rfl,Nat.zero_le _,rfl,rfl,HS6.out⟩
 ·intro a' wr hI
  obtain ⟨i,mn,mc,pn,pc,ma,pa,hact,hi,hmn,hpn,hO⟩:=hI
  obtain ⟨u,hu⟩:∃ u:Nat→Value,∀ k,gf a' k=u k:=⟨_,fun _=>rfl⟩
  simp only [hu] at hact
  clear hu
  subst hact
  clear HS6
  obtain ⟨A,hA⟩:∃ A,A=allW ((seeL σ4 x4).take i):=⟨_,rfl⟩
  rw [← hA] at hmn hpn hO
  have HAA:Hid (A=allW ((seeL σ4 x4).take i)):=hA
  have hAl:A.length≤6*i:=by
   rw [hA]
   refine Nat.le_trans (allW_len _ (fun y hy=>(HNI.out y (List.mem_of_mem_take hy)).2.1)) ?_
   have:((seeL σ4 x4).take i).length≤i:=by rw [List.length_take];exact Nat.min_le_left _ _
   omega
  have hPl:=plA_len σ A
  have HMN:Hid (mn=A.length∧pn=(A.foldl (plA σ) []).length):=⟨hmn,hpn⟩
  have hmn2:mn≤6*i:=by omega
  have hpn2:pn≤6*i:=by omega
  have hAl2:A.length≤6*i:=hAl
  clear hA hmn hpn hPl hAl
  by_cases hlt:i < nn
  ·have hlt':(i:Int) < (nn:Int):=by omega
   obtain ⟨y,hy⟩:∃ y,(seeL σ4 x4)[i]? = some y:=⟨_,List.getElem?_eq_getElem (by rw [HNL.out.1];exact hlt)⟩
   obtain ⟨g,o,hga,c0,c1,_⟩:=(HNE.out wr _ hO.four).at hy
   subst hga
   have hmy:=List.mem_of_getElem? hy
   obtain ⟨hy32,hy6,hyk⟩:=HNI.out y hmy
   have HCY:Hid (∀ W l',Own w0 W (KeepT wa wc b2 σ x2 (some ⟨g,o,none⟩) nc bs σ4 x4 (.slice mva ml mvc) ml M (.slice ra el rc) el RR::l')→Cs W y.ao y.C):=fun W l' hW=>(HNE.out W l' hW).2 y hmy
   have HYK:Hid (∀ q∈y.C,q.k < 256):=hyk
   have HST:Hid (allW ((seeL σ4 x4).take (i+1))=A++y.C.map (fun c=>(y.id,c))):=by
    show _=_
    rw [List.take_add_one,hy,HAA.out]
    exact allW_snoc _ _
   have hB:=hO.allocC #[.int .u32 (y.id:Int),.slice y.ao y.C.length y.cap] 76
   have HB:Hid (Own w0 _ _):=hB.sel 5 [1,2,3,0,4] (by decide)
   clear hO hB hy hmy hyk
   obtain ⟨xi,xa,xc,C⟩:=y
   simp only at c0 c1 hy32 hy6 HCY HYK HST HB
   obtain ⟨cl,hcl⟩:∃ cl,C.length=cl:=⟨_,rfl⟩
   have HCL:Hid (C.length=cl):=hcl
   rw [hcl] at c1 hy6 HB
   clear hcl
   obtain ⟨be,hbe⟩:∃ be,wr.heap.size=be:=⟨_,rfl⟩
   rw [hbe] at HB
   go_wp2
   generalize hWg:wr.alloc (.cells #[.int .u32 (xi:Int),.slice xa cl xc] 76)=W8 at *
   clear c0 c1 hWg hbe
   refine wp_loop (fun a' wr=>∃ (q mn mc pn pc:Nat) (ma pa:Option Addr) (A2:List (Nat × Cp)),a'={ tmps:=#[.pointer (some ⟨b,0,none⟩),gf a' 1,gf a' 2,gf a' 3,.slice wa wn wc,gf a' 5,.slice ra el rc,.slice (some ⟨g,o,none⟩) nn nc,.slice ma mn mc,gf a' 9,.pointer (some ⟨be,0,none⟩),gf a' 11,gf a' 12,gf a' 13,gf a' 14,gf a' 15,gf a' 16,gf a' 17,gf a' 18,gf a' 19,gf a' 20,gf a' 21,gf a' 22,gf a' 23,gf a' 24,gf a' 25,gf a' 26,gf a' 27,gf a' 28,gf a' 29,gf a' 30,gf a' 31,gf a' 32,gf a' 33,gf a' 34,gf a' 35,gf a' 36,gf a' 37,gf a' 38,gf a' 39,gf a' 40,gf a' 41,gf a' 42,gf a' 43,gf a' 44,gf a' 45,gf a' 46,gf a' 47,gf a' 48,gf a' 49,gf a' 50,gf a' 51,gf a' 52,gf a' 53,gf a' 54,gf a' 55,gf a' 56,gf a' 57,gf a' 58,gf a' 59,gf a' 60,gf a' 61,gf a' 62,gf a' 63,gf a' 64,gf a' 65,gf a' 66,gf a' 67,gf a' 68,gf a' 69,gf a' 70,gf a' 71,gf a' 72,gf a' 73,gf a' 74,gf a' 75,gf a' 76,gf a' 77,.slice (some ⟨g,o,none⟩) nn nc,.int .i64 (nn:Int),.int .i64 (i:Int),gf a' 81,gf a' 82,gf a' 83,gf a' 84,.slice xa cl xc,.int .i64 (cl:Int),.int .i64 (q:Int),gf a' 88,gf a' 89,gf a' 90,gf a' 91,gf a' 92,gf a' 93,gf a' 94,gf a' 95,gf a' 96,gf a' 97,gf a' 98,gf a' 99,gf a' 100,gf a' 101,gf a' 102,gf a' 103,gf a' 104,gf a' 105,gf a' 106,gf a' 107,gf a' 108,gf a' 109,gf a' 110,gf a' 111,gf a' 112,gf a' 113,gf a' 114,gf a' 115,gf a' 116,gf a' 117,gf a' 118,gf a' 119,gf a' 120,gf a' 121,gf a' 122,gf a' 123,gf a' 124,gf a' 125,gf a' 126,gf a' 127,gf a' 128,gf a' 129,gf a' 130,gf a' 131,gf a' 132,gf a' 133,gf a' 134,gf a' 135,gf a' 136,gf a' 137,gf a' 138,gf a' 139,gf a' 140,gf a' 141,gf a' 142,gf a' 143,gf a' 144,gf a' 145,gf a' 146,gf a' 147,gf a' 148,gf a' 149,gf a' 150,gf a' 151,gf a' 152,gf a' 153,gf a' 154,gf a' 155,gf a' 156,gf a' 157,gf a' 158,gf a' 159,gf a' 160,gf a' 161,gf a' 162,gf a' 163,gf a' 164,gf a' 165,gf a' 166,gf a' 167,gf a' 168,gf a' 169,gf a' 170,gf a' 171,gf a' 172,gf a' 173,gf a' 174,gf a' 175,gf a' 176,gf a' 177,gf a' 178,gf a' 179,gf a' 180,gf a' 181,gf a' 182,gf a' 183,gf a' 184,gf a' 185,gf a' 186,gf a' 187,gf a' 188],defers:=[] }∧q≤cl∧A2=A++(C.take q).map (fun c=>(xi,c))∧mn=A2.length∧pn=(A2.foldl (plA σ) []).length∧Own w0 wr (Cells b (rwcs bs (.slice none 0 0) (T+1) (.slice mva ml mvc) (.slice pa pn pc)) 109::Row 121 3 (.slice ma mn mc) mn (cat MkE.cs (A2.map (mkA σ M (T+1))))::Row 126 4 (.slice pa pn pc) pn (cat PlE.cs (A2.foldl (plA σ) []))::Cells be #[.int .u32 (xi:Int),.slice xa cl xc] 76::KeepT wa wc b2 σ x2 (some ⟨g,o,none⟩) nc bs σ4 x4 (.slice mva ml mvc) ml M (.slice ra el rc) el RR::l)) (fun a' _=>cl - (intOf (a'.tmps.getD 87 undef)).toNat) ?_ ?_
   ·exact ⟨0,mn,mc,pn,pc,ma,pa,A,rfl,Nat.zero_le _,by simp,HMN.out.1,HMN.out.2,HB.out⟩
   ·intro a' wr hI
    obtain ⟨q,mn,mc,pn,pc,ma,pa,A2,hact,hq,hA2,hmn,hpn,hO⟩:=hI
    obtain ⟨u2,hu⟩:∃ u2:Nat→Value,∀ k,gf a' k=u2 k:=⟨_,fun _=>rfl⟩
    simp only [hu] at hact
    clear hu
    subst hact
    clear HB HMN
    have hA2l:A2.length≤6144+6:=by
     rw [hA2,List.length_append,List.length_map]
     have:(C.take q).length≤q:=by rw [List.length_take];exact Nat.min_le_left _ _
     omega
    have hP2:=plA_len σ A2
    have hmn3:mn≤6150:=by omega
    have hpn3:pn≤6150:=by omega
    have HMN:Hid (mn=A2.length∧pn=(A2.foldl (plA σ) []).length):=⟨hmn,hpn⟩
    have HA2:Hid (A2=A++(C.take q).map (fun c=>(xi,c))):=hA2
    clear hA2 hmn hpn hP2 hA2l
    by_cases hqc:q < cl
    ·have hqc':(q:Int) < (cl:Int):=by omega
     obtain ⟨c,hc⟩:∃ c,C[q]? = some c:=⟨_,List.getElem?_eq_getElem (by rw [HCL.out];exact hqc)⟩
     obtain ⟨gc,oc,hxa,_,t0,t1,t2,t3⟩:=(HCY.out wr _ hO.five).at q c hc
     subst hxa
     have hck:=HYK.out c (List.mem_of_getElem? hc)
     have HA3:Hid (A2++[(xi,c)]=A++(C.take (q+1)).map (fun c=>(xi,c))):=by
      show _=_
      rw [HA2.out,List.take_add_one,hc]
      simp
     obtain ⟨ck,ca,cb,cc⟩:=c
     simp only at t0 t1 t2 t3 hck
     have hC:=(hO.allocC #[.int .u8 (ck:Int),.int .i32 ca,.int .i32 cb,.int .i32 cc] 46)
     have HC:Hid (Own w0 _ _):=hC
     have e0:=hC.five.cell 0
     have k0:=hC.cell 0
     have w2:=hC.two.cell 2
     simp [rwcs] at e0 k0 w2
     clear hO hc hC
     obtain ⟨bc,hbc⟩:∃ bc,wr.heap.size=bc:=⟨_,rfl⟩
     rw [hbc] at HC
     clear e0 k0 w2
     go_wp2
     generalize hWg:wr.alloc (.cells #[.int .u8 (ck:Int),.int .i32 ca,.int .i32 cb,.int .i32 cc] 46)=W9 at *
     clear t0 t1 t2 t3 hWg hbc
     have e0:=HC.out.five.cell 0
     have k0:=HC.out.cell 0
     have w2:=HC.out.two.cell 2
     simp [rwcs] at e0 k0 w2
     go_region_held3 (fun w'=>w'.cell? ⟨be,0,none⟩=some (.int .u32 (xi:Int))∧w'.cell? ⟨bc,0,none⟩=some (.int .u8 (ck:Int))∧w'.cell? ⟨b,2,none⟩=some (.int .u32 ((T:Int)+1))) (go_keep) (fail)
     obtain ⟨bm,hbm⟩:∃ bm,W9.heap.size=bm:=⟨_,rfl⟩
     have hD:=(HC.out.allocC #[.int .u32 (xi:Int),.int .u8 (ck:Int),.int .u32 ((T:Int)+1)] 121).drew
     have HD:Hid (Own w0 ((W9.alloc (.cells #[.int .u32 (xi:Int),.int .u8 (ck:Int),.int .u32 ((T:Int)+1)] 121)).drew) (KeepT wa wc b2 σ x2 (some ⟨g,o,none⟩) nc bs σ4 x4 (.slice mva ml mvc) ml M (.slice ra el rc) el RR::Cells bm #[.int .u32 (xi:Int),.int .u8 (ck:Int),.int .u32 ((T:Int)+1)] 121::Cells bc #[.int .u8 (ck:Int),.int .i32 ca,.int .i32 cb,.int .i32 cc] 46::Cells b (rwcs bs (.slice none 0 0) (T+1) (.slice mva ml mvc) (.slice pa pn pc)) 109::Row 121 3 (.slice ma mn mc) mn (cat MkE.cs (A2.map (mkA σ M (T+1))))::Row 126 4 (.slice pa pn pc) pn (cat PlE.cs (A2.foldl (plA σ) []))::Cells be #[.int .u32 (xi:Int),.slice (some ⟨gc,oc,none⟩) cl xc] 76::l)):=by
      rw [← hbm]
      exact hD.sel 7 [6,0,1,2,3,4,5] (by decide)
     rw [hbm]
     clear hD hbm HC e0 k0 w2
     generalize (W9.alloc (.cells #[.int .u32 (xi:Int),.int .u8 (ck:Int),.int .u32 ((T:Int)+1)] 121)).drew=W10 at *
     have HG:Hid (Calls _ _ _ _ _):=HGW.out W10 _ xi ck hck HD.out
     have k0:=HD.out.three.cell 0
     have e0:=(HD.out.sel 7 [6] (by decide)).cell 0
     simp at e0 k0
     cases hgc:gcp σ xi ck with
     | none =>
      rw [hgc] at HG
      unfold gag at HG
      simp only [Option.getD_none,Option.isSome_none,Cp.ag] at HG
      have HMK:Hid (mkA σ M (T+1) (xi,⟨ck,ca,cb,cc⟩)=⟨xi,ck,T+1⟩):=by
       show _=_
       unfold mkA
       rw [if_neg (by simp only;rw [hgc];simp)]
      have HPB:Hid (∀ P,plA σ P (xi,⟨ck,ca,cb,cc⟩)=if ck=0 then ins P ⟨xi,true,ca,cb⟩ else P):=fun P=>by
       unfold plA
       rw [if_neg (by simp only;rw [hgc];simp)]
      clear hgc
      go_wp2_with fail
      refine HG.out.mono ?_
      rintro e w11 ⟨rfl,hf⟩
      have h11:=(HD.out.quiet hf).allocC #[.int .u8 0,.int .i32 0,.int .i32 0,.int .i32 0] 46
      by_cases hk0:ck=0
      ·subst hk0
       have HPA:Hid (∀ P,plA σ P (xi,⟨0,ca,cb,cc⟩)=ins P ⟨xi,true,ca,cb⟩):=fun P=>by rw [HPB.out,if_pos rfl]
       have HO:Hid (Own w0 (w11.alloc (.cells #[.int .u8 0,.int .i32 0,.int .i32 0,.int .i32 0] 46)) (Row 126 4 (.slice pa pn pc) pn (cat PlE.cs (A2.foldl (plA σ) []))::Row 121 3 (.slice ma mn mc) mn (cat MkE.cs (A2.map (mkA σ M (T+1))))::Cells bm #[.int .u32 (xi:Int),.int .u8 ((0:Nat):Int),.int .u32 ((T:Int)+1)] 121::Cells b (rwcs bs (.slice none 0 0) (T+1) (.slice mva ml mvc) (.slice pa pn pc)) 109::Cells be #[.int .u32 (xi:Int),.slice (some ⟨gc,oc,none⟩) cl xc] 76::KeepT wa wc b2 σ x2 (some ⟨g,o,none⟩) nc bs σ4 x4 (.slice mva ml mvc) ml M (.slice ra el rc) el RR::Cells bc #[.int .u8 ((0:Nat):Int),.int .i32 ca,.int .i32 cb,.int .i32 cc] 46::l)):=h11.sel 8 [6,5,2,4,7,1,3] (by decide)
       have HP2:Hid (Calls _ _ _ _ _):=rput15 w0 _ _ HO.out.drew pa pn pc (A2.foldl (plA σ) []) HMN.out.2.symm (fun w' hw'=>pls_row hw'.row HMN.out.2.symm) (by omega) xi true ca cb ⟨xi,true,ca,cb⟩ rfl
       have kk:=h11.four.cell 0
       simp at kk
       clear hf h11 HG HD e0 k0 HPB
       go_wp2_with fail
       have kb:=HO.out.four.cell 4
       have ke:=(HO.out.sel 7 [4] (by decide)).cell 0
       have kc1:=(HO.out.sel 7 [6] (by decide)).cell 1
       have kc2:=(HO.out.sel 7 [6] (by decide)).cell 2
       simp [rwcs] at kb ke kc1 kc2
       go_wp2_with fail
       refine wp_cut (fun a' w'=>∃ (pa2:Option Addr) (pc2:Nat),a'={ tmps:=#[.pointer (some ⟨b,0,none⟩),gf a' 1,gf a' 2,gf a' 3,.slice wa wn wc,gf a' 5,.slice ra el rc,.slice (some ⟨g,o,none⟩) nn nc,.slice ma mn mc,gf a' 9,.pointer (some ⟨be,0,none⟩),gf a' 11,gf a' 12,.pointer (some ⟨bm,0,none⟩),gf a' 14,gf a' 15,gf a' 16,gf a' 17,gf a' 18,gf a' 19,gf a' 20,gf a' 21,gf a' 22,gf a' 23,gf a' 24,gf a' 25,gf a' 26,gf a' 27,gf a' 28,gf a' 29,gf a' 30,gf a' 31,gf a' 32,gf a' 33,gf a' 34,gf a' 35,gf a' 36,gf a' 37,gf a' 38,gf a' 39,gf a' 40,gf a' 41,gf a' 42,gf a' 43,gf a' 44,gf a' 45,gf a' 46,gf a' 47,gf a' 48,gf a' 49,gf a' 50,gf a' 51,gf a' 52,gf a' 53,gf a' 54,gf a' 55,gf a' 56,gf a' 57,gf a' 58,gf a' 59,gf a' 60,gf a' 61,gf a' 62,gf a' 63,gf a' 64,gf a' 65,gf a' 66,gf a' 67,gf a' 68,gf a' 69,gf a' 70,gf a' 71,gf a' 72,gf a' 73,gf a' 74,gf a' 75,gf a' 76,gf a' 77,.slice (some ⟨g,o,none⟩) nn nc,.int .i64 (nn:Int),.int .i64 (i:Int),gf a' 81,gf a' 82,gf a' 83,gf a' 84,.slice (some ⟨gc,oc,none⟩) cl xc,.int .i64 (cl:Int),.int .i64 (q:Int),gf a' 88,gf a' 89,gf a' 90,gf a' 91,gf a' 92,gf a' 93,gf a' 94,gf a' 95,gf a' 96,gf a' 97,gf a' 98,gf a' 99,gf a' 100,gf a' 101,gf a' 102,gf a' 103,gf a' 104,gf a' 105,gf a' 106,gf a' 107,gf a' 108,gf a' 109,gf a' 110,gf a' 111,gf a' 112,gf a' 113,gf a' 114,gf a' 115,gf a' 116,gf a' 117,gf a' 118,gf a' 119,gf a' 120,gf a' 121,gf a' 122,gf a' 123,gf a' 124,gf a' 125,gf a' 126,gf a' 127,gf a' 128,gf a' 129,gf a' 130,gf a' 131,gf a' 132,gf a' 133,gf a' 134,gf a' 135,gf a' 136,gf a' 137,gf a' 138,gf a' 139,gf a' 140,gf a' 141,gf a' 142,gf a' 143,gf a' 144,gf a' 145,gf a' 146,gf a' 147,gf a' 148,gf a' 149,gf a' 150,gf a' 151,gf a' 152,gf a' 153,gf a' 154,gf a' 155,gf a' 156,gf a' 157,gf a' 158,gf a' 159,gf a' 160,gf a' 161,gf a' 162,gf a' 163,gf a' 164,gf a' 165,gf a' 166,gf a' 167,gf a' 168,gf a' 169,gf a' 170,gf a' 171,gf a' 172,gf a' 173,gf a' 174,gf a' 175,gf a' 176,gf a' 177,gf a' 178,gf a' 179,gf a' 180,gf a' 181,gf a' 182,gf a' 183,gf a' 184,gf a' 185,gf a' 186,gf a' 187,gf a' 188],defers:=[] }∧Own w0 w' (Cells b (rwcs bs (.slice none 0 0) (T+1) (.slice mva ml mvc) (.slice pa2 (pn+1) pc2)) 109::Row 126 4 (.slice pa2 (pn+1) pc2) (pn+1) (cat PlE.cs (ins (A2.foldl (plA σ) []) ⟨xi,true,ca,cb⟩))::Row 121 3 (.slice ma mn mc) mn (cat MkE.cs (A2.map (mkA σ M (T+1))))::Cells bm #[.int .u32 (xi:Int),.int .u8 ((0:Nat):Int),.int .u32 ((T:Int)+1)] 121::Cells be #[.int .u32 (xi:Int),.slice (some ⟨gc,oc,none⟩) cl xc] 76::KeepT wa wc b2 σ x2 (some ⟨g,o,none⟩) nc bs σ4 x4 (.slice mva ml mvc) ml M (.slice ra el rc) el RR::l)) ?rest ?first
       case first =>
        intro J K' hJ hK'
        have HJ:Hid _:=hJ
        clear hJ
        go_region_law
         (go_simp;go_at_call 60;refine HP2.out.mono ?_;rintro e w12 ⟨pa2,pc2,rfl,h12⟩;dsimp only
          have h12b:=h12.sel 8 [4,0,2,3,5,6] (by decide)
          have b4:=h12b.cell 4
          have z4:=h12b.froz 4
          simp [rwcs] at b4
          have hS:=h12b.setC 4 (.slice pa2 (pn+1) pc2)
          have hcc:(rwcs bs (.slice none 0 0) (T+1) (.slice mva ml mvc) (.slice pa pn pc)).setIfInBounds 4 (.slice pa2 (pn+1) pc2)=rwcs bs (.slice none 0 0) (T+1) (.slice mva ml mvc) (.slice pa2 (pn+1) pc2):=by simp [rwcs]
          rw [hcc] at hS
          have H12:Hid (Own w0 _ _):=hS
          clear h12 h12b hS hcc)
        all_goals exact hK' _ _ (Met.intro (HJ.out _ _ ⟨pa2,pc2,rfl,H12.out⟩))
       case rest =>
        intro a' w13 hcut
        obtain ⟨pa2,pc2,hact,hO⟩:=hcut
        obtain ⟨u7,hu⟩:∃ u7:Nat→Value,∀ k,gf a' k=u7 k:=⟨_,fun _=>rfl⟩
        simp only [hu] at hact
        clear hu
        subst hact
        clear HO HP2 kb ke kc1 kc2
        have HO:Hid (Own w0 _ _):=hO.sel 6 [2,3,0,1,4,5] (by decide)
        have m0:=HO.out.two.cell 0
        have m1:=HO.out.two.cell 1
        have m2:=HO.out.two.cell 2
        simp at m0 m1 m2
        clear hO
        go_wp2_with (at_builtin;refine append1_own rfl _ _ 106 rfl 121 i1 (.agg #[.int .u32 0,.int .u8 0,.int .u32 0]) 3 12 Tryz.underlying106 hi1 hy0 hy1 hy2 rfl (by decide) _ _ _ rfl HO.out _ #[.int .u32 (xi:Int),.int .u8 0,.int .u32 ((T:Int)+1)] (by simp) rfl rfl (by intro u hu;simp at hu;rcases hu with rfl | rfl | rfl <;> rfl) (by unfold maxLen;omega) (by omega) ?_)
        intro gm cm w20 hO20 hsz
        have HF:Hid (Own w0 w20 (Cells b (rwcs bs (.slice none 0 0) (T+1) (.slice mva ml mvc) (.slice pa2 (pn+1) pc2)) 109::Row 121 3 (.slice (some ⟨gm,0,none⟩) (mn+1) cm) (mn+1) (cat MkE.cs ((A2++[(xi,(⟨0,ca,cb,cc⟩:Cp))]).map (mkA σ M (T+1))))::Row 126 4 (.slice pa2 (pn+1) pc2) (pn+1) (cat PlE.cs ((A2++[(xi,(⟨0,ca,cb,cc⟩:Cp))]).foldl (plA σ) []))::Cells be #[.int .u32 (xi:Int),.slice (some ⟨gc,oc,none⟩) cl xc] 76::KeepT wa wc b2 σ x2 (some ⟨g,o,none⟩) nc bs σ4 x4 (.slice mva ml mvc) ml M (.slice ra el rc) el RR::l)):=by
         show Own _ _ _
         rw [List.map_append,List.foldl_append]
         show Own w0 w20 (_::Row _ 3 _ _ (cat MkE.cs (_++[mkA σ M (T+1) (xi,⟨0,ca,cb,cc⟩)]))::Row _ 4 _ _ (cat PlE.cs (plA σ _ (xi,⟨0,ca,cb,cc⟩)))::_)
         rw [HMK.out,HPA.out,cat_mk1]
         exact hO20.sel 6 [2,0,3,4,5] (by decide)
        clear hO20 HO hsz
        go_wp2
        exact ⟨⟨q+1,mn+1,cm,pn+1,pc2,some ⟨gm,0,none⟩,pa2,A2++[(xi,⟨0,ca,cb,cc⟩)],rfl,by omega,HA3.out,by rw [List.length_append,← HMN.out.1];rfl,by rw [List.foldl_append];show _=(plA σ _ _).length;rw [HPA.out,ins_len,← HMN.out.2],HF.out⟩,by simp [intOf];omega⟩
      ·have hk1:((ck:Int) == 0)=false:=by rw [beq_eq_false_iff_ne];omega
       have HPA:Hid (∀ P,plA σ P (xi,⟨ck,ca,cb,cc⟩)=P):=fun P=>by rw [HPB.out,if_neg hk0]
       have HO:Hid (Own w0 _ _):=h11.sel 8 [5,2,4,6,7,1] (by decide)
       have m0:=HO.out.two.cell 0
       have m1:=HO.out.two.cell 1
       have m2:=HO.out.two.cell 2
       have kk:=h11.four.cell 0
       simp at m0 m1 m2 kk
       clear hk0 hf h11 HG HD e0 k0 HPB
       go_wp2_with (at_builtin;refine append1_own rfl _ _ 106 rfl 121 i1 (.agg #[.int .u32 0,.int .u8 0,.int .u32 0]) 3 12 Tryz.underlying106 hi1 hy0 hy1 hy2 rfl (by decide) _ _ _ rfl HO.out _ #[.int .u32 (xi:Int),.int .u8 (ck:Int),.int .u32 ((T:Int)+1)] (by simp) rfl rfl (by intro u hu;simp at hu;rcases hu with rfl | rfl | rfl <;> rfl) (by unfold maxLen;omega) (by omega) ?_)
       intro gm cm w20 hO20 hsz
       have HF:Hid (Own w0 w20 (Cells b (rwcs bs (.slice none 0 0) (T+1) (.slice mva ml mvc) (.slice pa pn pc)) 109::Row 121 3 (.slice (some ⟨gm,0,none⟩) (mn+1) cm) (mn+1) (cat MkE.cs ((A2++[(xi,(⟨ck,ca,cb,cc⟩:Cp))]).map (mkA σ M (T+1))))::Row 126 4 (.slice pa pn pc) pn (cat PlE.cs ((A2++[(xi,(⟨ck,ca,cb,cc⟩:Cp))]).foldl (plA σ) []))::Cells be #[.int .u32 (xi:Int),.slice (some ⟨gc,oc,none⟩) cl xc] 76::KeepT wa wc b2 σ x2 (some ⟨g,o,none⟩) nc bs σ4 x4 (.slice mva ml mvc) ml M (.slice ra el rc) el RR::l)):=by
        show Own _ _ _
        rw [List.map_append,List.foldl_append]
        show Own w0 w20 (_::Row _ 3 _ _ (cat MkE.cs (_++[mkA σ M (T+1) (xi,⟨ck,ca,cb,cc⟩)]))::Row _ 4 _ _ (cat PlE.cs (plA σ _ (xi,⟨ck,ca,cb,cc⟩)))::_)
        rw [HMK.out,HPA.out,cat_mk1]
        exact hO20.sel 6 [2,0,3,4,5] (by decide)
       clear hO20 HO hsz
       go_wp2
       exact ⟨⟨q+1,mn+1,cm,pn,pc,some ⟨gm,0,none⟩,pa,A2++[(xi,⟨ck,ca,cb,cc⟩)],rfl,by omega,HA3.out,by rw [List.length_append,← HMN.out.1];rfl,by rw [List.foldl_append];show _=(plA σ _ _).length;rw [HPA.out,← HMN.out.2],HF.out⟩,by simp [intOf];omega⟩
     | some c' =>
      have hck2:c'.k=ck:=by
       unfold gcp at hgc
       split at hgc
       ·exact fst_in hgc
       ·cases hgc
      obtain ⟨c'k,oa,ob,od⟩:=c'
      simp only at hck2
      subst hck2
      rw [hgc] at HG
      unfold gag at HG
      simp only [Option.getD_some,Option.isSome_some,Cp.ag] at HG
      by_cases hsame:oa=ca∧ob=cb∧od=cc
      ·obtain ⟨rfl,rfl,rfl⟩:=hsame
       have HMK:Hid (mkA σ M (T+1) (xi,⟨c'k,oa,ob,od⟩)=⟨xi,c'k,chgM M xi c'k⟩):=by
        show _=_
        unfold mkA
        rw [if_pos (by simp only;exact hgc)]
       have HPA:Hid (∀ P,plA σ P (xi,⟨c'k,oa,ob,od⟩)=P):=fun P=>by
        unfold plA
        rw [if_pos (by simp only;exact hgc)]
       clear hgc
       go_wp2_with fail
       refine HG.out.mono ?_
       rintro e w11 ⟨rfl,hf⟩
       have h11:=(HD.out.quiet hf).allocC #[.int .u8 (c'k:Int),.int .i32 oa,.int .i32 ob,.int .i32 od] 46
       have r0:=h11.four.cell 0
       have r1:=h11.four.cell 1
       have r2:=h11.four.cell 2
       have r3:=h11.four.cell 3
       have g0:=(h11.sel 8 [7] (by decide)).cell 0
       have b3:=(h11.sel 8 [4] (by decide)).cell 3
       simp [rwcs] at r0 r1 r2 r3 g0 b3
       have HC2:Hid (Calls _ _ _ _ _):=HCH.out _ _ xi c'k b3 h11.two
       have H11:Hid (Own w0 _ _):=h11.sel 8 [2,5,4,6,7,1] (by decide)
       clear hf h11 HG HD e0 k0
       go_wp2_with fail
       refine HC2.out.mono ?_
       rintro e w12 ⟨rfl,hf⟩
       have h12:=H11.out.quiet hf
       have m2:=h12.cell 2
       have y2:=h12.froz 2
       simp at m2
       have h13:=h12.setC 2 (.int .u32 (chgM M xi c'k:Int))
       have HO:Hid (Own w0 _ _):=h13.two
       have m0:=HO.out.two.cell 0
       have m1:=HO.out.two.cell 1
       have m2':=HO.out.two.cell 2
       simp at m0 m1 m2'
       generalize hcg:chgM M xi c'k=tg at *
       clear hf h12 h13 H11 HC2 r0 r1 r2 r3 g0 b3 hcg
       go_wp2_with (at_builtin;refine append1_own rfl _ _ 106 rfl 121 i1 (.agg #[.int .u32 0,.int .u8 0,.int .u32 0]) 3 12 Tryz.underlying106 hi1 hy0 hy1 hy2 rfl (by decide) _ _ _ rfl HO.out _ #[.int .u32 (xi:Int),.int .u8 (c'k:Int),.int .u32 (tg:Int)] (by simp) rfl rfl (by intro u hu;simp at hu;rcases hu with rfl | rfl | rfl <;> rfl) (by unfold maxLen;omega) (by omega) ?_)
       intro gm cm w20 hO20 hsz
       have HF:Hid (Own w0 w20 (Cells b (rwcs bs (.slice none 0 0) (T+1) (.slice mva ml mvc) (.slice pa pn pc)) 109::Row 121 3 (.slice (some ⟨gm,0,none⟩) (mn+1) cm) (mn+1) (cat MkE.cs ((A2++[(xi,(⟨c'k,oa,ob,od⟩:Cp))]).map (mkA σ M (T+1))))::Row 126 4 (.slice pa pn pc) pn (cat PlE.cs ((A2++[(xi,(⟨c'k,oa,ob,od⟩:Cp))]).foldl (plA σ) []))::Cells be #[.int .u32 (xi:Int),.slice (some ⟨gc,oc,none⟩) cl xc] 76::KeepT wa wc b2 σ x2 (some ⟨g,o,none⟩) nc bs σ4 x4 (.slice mva ml mvc) ml M (.slice ra el rc) el RR::l)):=by
        show Own _ _ _
        rw [List.map_append,List.foldl_append]
        show Own w0 w20 (_::Row _ 3 _ _ (cat MkE.cs (_++[mkA σ M (T+1) (xi,⟨c'k,oa,ob,od⟩)]))::Row _ 4 _ _ (cat PlE.cs (plA σ _ (xi,⟨c'k,oa,ob,od⟩)))::_)
        rw [HMK.out,HPA.out,cat_mk1]
        exact hO20.sel 6 [2,0,3,4,5] (by decide)
       clear hO20 HO hsz
       go_wp2
       exact ⟨⟨q+1,mn+1,cm,pn,pc,some ⟨gm,0,none⟩,pa,A2++[(xi,⟨c'k,oa,ob,od⟩)],rfl,by omega,HA3.out,by rw [List.length_append,← HMN.out.1];rfl,by rw [List.foldl_append];show _=(plA σ _ _).length;rw [HPA.out,← HMN.out.2],HF.out⟩,by simp [intOf];omega⟩
      ·have HMK:Hid (mkA σ M (T+1) (xi,⟨c'k,ca,cb,cc⟩)=⟨xi,c'k,T+1⟩):=by
        show _=_
        unfold mkA
        rw [if_neg (by simp only;rw [hgc];intro hh;injection hh with hh;injection hh with _ h1 h2 h3;exact hsame ⟨h1,h2,h3⟩)]
       have HPB:Hid (∀ P,plA σ P (xi,⟨c'k,ca,cb,cc⟩)=if c'k=0 then ins P ⟨xi,true,ca,cb⟩ else P):=fun P=>by
        unfold plA
        rw [if_neg (by simp only;rw [hgc];intro hh;injection hh with hh;injection hh with _ h1 h2 h3;exact hsame ⟨h1,h2,h3⟩)]
       have hs3:(((oa == ca) && (ob == cb)) && (od == cc))=false:=by
        simp only [Bool.and_eq_false_iff,beq_eq_false_iff_ne]
        by_cases e1:oa=ca
        ·by_cases e2:ob=cb
         ·exact Or.inr (fun e3=>hsame ⟨e1,e2,e3⟩)
         ·exact Or.inl (Or.inr e2)
        ·exact Or.inl (Or.inl e1)
       clear hgc
       go_wp2_with fail
       refine HG.out.mono ?_
       rintro e w11 ⟨rfl,hf⟩
       have h11:=(HD.out.quiet hf).allocC #[.int .u8 (c'k:Int),.int .i32 oa,.int .i32 ob,.int .i32 od] 46
       by_cases hk0:c'k=0
       ·subst hk0
        have HPA:Hid (∀ P,plA σ P (xi,⟨0,ca,cb,cc⟩)=ins P ⟨xi,true,ca,cb⟩):=fun P=>by rw [HPB.out,if_pos rfl]
        have HO:Hid (Own w0 (w11.alloc (.cells #[.int .u8 ((0:Nat):Int),.int .i32 oa,.int .i32 ob,.int .i32 od] 46)) (Row 126 4 (.slice pa pn pc) pn (cat PlE.cs (A2.foldl (plA σ) []))::Row 121 3 (.slice ma mn mc) mn (cat MkE.cs (A2.map (mkA σ M (T+1))))::Cells bm #[.int .u32 (xi:Int),.int .u8 ((0:Nat):Int),.int .u32 ((T:Int)+1)] 121::Cells b (rwcs bs (.slice none 0 0) (T+1) (.slice mva ml mvc) (.slice pa pn pc)) 109::Cells be #[.int .u32 (xi:Int),.slice (some ⟨gc,oc,none⟩) cl xc] 76::KeepT wa wc b2 σ x2 (some ⟨g,o,none⟩) nc bs σ4 x4 (.slice mva ml mvc) ml M (.slice ra el rc) el RR::Cells bc #[.int .u8 ((0:Nat):Int),.int .i32 ca,.int .i32 cb,.int .i32 cc] 46::l)):=h11.sel 8 [6,5,2,4,7,1,3] (by decide)
        have HP2:Hid (Calls _ _ _ _ _):=rput15 w0 _ _ HO.out.drew pa pn pc (A2.foldl (plA σ) []) HMN.out.2.symm (fun w' hw'=>pls_row hw'.row HMN.out.2.symm) (by omega) xi true ca cb ⟨xi,true,ca,cb⟩ rfl
        have kk:=h11.four.cell 0
        have r1:=h11.four.cell 1
        have r2:=h11.four.cell 2
        have r3:=h11.four.cell 3
        simp at r1 r2 r3
        simp at kk
        clear hf h11 HG HD e0 k0 HPB
        go_wp2_with fail
        have kb:=HO.out.four.cell 4
        have ke:=(HO.out.sel 7 [4] (by decide)).cell 0
        have kc1:=(HO.out.sel 7 [6] (by decide)).cell 1
        have kc2:=(HO.out.sel 7 [6] (by decide)).cell 2
        simp [rwcs] at kb ke kc1 kc2
        go_wp2_with fail
        refine wp_cut (fun a' w'=>∃ (pa2:Option Addr) (pc2:Nat),a'={ tmps:=#[.pointer (some ⟨b,0,none⟩),gf a' 1,gf a' 2,gf a' 3,.slice wa wn wc,gf a' 5,.slice ra el rc,.slice (some ⟨g,o,none⟩) nn nc,.slice ma mn mc,gf a' 9,.pointer (some ⟨be,0,none⟩),gf a' 11,gf a' 12,.pointer (some ⟨bm,0,none⟩),gf a' 14,gf a' 15,gf a' 16,gf a' 17,gf a' 18,gf a' 19,gf a' 20,gf a' 21,gf a' 22,gf a' 23,gf a' 24,gf a' 25,gf a' 26,gf a' 27,gf a' 28,gf a' 29,gf a' 30,gf a' 31,gf a' 32,gf a' 33,gf a' 34,gf a' 35,gf a' 36,gf a' 37,gf a' 38,gf a' 39,gf a' 40,gf a' 41,gf a' 42,gf a' 43,gf a' 44,gf a' 45,gf a' 46,gf a' 47,gf a' 48,gf a' 49,gf a' 50,gf a' 51,gf a' 52,gf a' 53,gf a' 54,gf a' 55,gf a' 56,gf a' 57,gf a' 58,gf a' 59,gf a' 60,gf a' 61,gf a' 62,gf a' 63,gf a' 64,gf a' 65,gf a' 66,gf a' 67,gf a' 68,gf a' 69,gf a' 70,gf a' 71,gf a' 72,gf a' 73,gf a' 74,gf a' 75,gf a' 76,gf a' 77,.slice (some ⟨g,o,none⟩) nn nc,.int .i64 (nn:Int),.int .i64 (i:Int),gf a' 81,gf a' 82,gf a' 83,gf a' 84,.slice (some ⟨gc,oc,none⟩) cl xc,.int .i64 (cl:Int),.int .i64 (q:Int),gf a' 88,gf a' 89,gf a' 90,gf a' 91,gf a' 92,gf a' 93,gf a' 94,gf a' 95,gf a' 96,gf a' 97,gf a' 98,gf a' 99,gf a' 100,gf a' 101,gf a' 102,gf a' 103,gf a' 104,gf a' 105,gf a' 106,gf a' 107,gf a' 108,gf a' 109,gf a' 110,gf a' 111,gf a' 112,gf a' 113,gf a' 114,gf a' 115,gf a' 116,gf a' 117,gf a' 118,gf a' 119,gf a' 120,gf a' 121,gf a' 122,gf a' 123,gf a' 124,gf a' 125,gf a' 126,gf a' 127,gf a' 128,gf a' 129,gf a' 130,gf a' 131,gf a' 132,gf a' 133,gf a' 134,gf a' 135,gf a' 136,gf a' 137,gf a' 138,gf a' 139,gf a' 140,gf a' 141,gf a' 142,gf a' 143,gf a' 144,gf a' 145,gf a' 146,gf a' 147,gf a' 148,gf a' 149,gf a' 150,gf a' 151,gf a' 152,gf a' 153,gf a' 154,gf a' 155,gf a' 156,gf a' 157,gf a' 158,gf a' 159,gf a' 160,gf a' 161,gf a' 162,gf a' 163,gf a' 164,gf a' 165,gf a' 166,gf a' 167,gf a' 168,gf a' 169,gf a' 170,gf a' 171,gf a' 172,gf a' 173,gf a' 174,gf a' 175,gf a' 176,gf a' 177,gf a' 178,gf a' 179,gf a' 180,gf a' 181,gf a' 182,gf a' 183,gf a' 184,gf a' 185,gf a' 186,gf a' 187,gf a' 188],defers:=[] }∧Own w0 w' (Cells b (rwcs bs (.slice none 0 0) (T+1) (.slice mva ml mvc) (.slice pa2 (pn+1) pc2)) 109::Row 126 4 (.slice pa2 (pn+1) pc2) (pn+1) (cat PlE.cs (ins (A2.foldl (plA σ) []) ⟨xi,true,ca,cb⟩))::Row 121 3 (.slice ma mn mc) mn (cat MkE.cs (A2.map (mkA σ M (T+1))))::Cells bm #[.int .u32 (xi:Int),.int .u8 ((0:Nat):Int),.int .u32 ((T:Int)+1)] 121::Cells be #[.int .u32 (xi:Int),.slice (some ⟨gc,oc,none⟩) cl xc] 76::KeepT wa wc b2 σ x2 (some ⟨g,o,none⟩) nc bs σ4 x4 (.slice mva ml mvc) ml M (.slice ra el rc) el RR::l)) ?rest ?first
        case first =>
         intro J K' hJ hK'
         have HJ:Hid _:=hJ
         clear hJ
         go_region_law
          (go_simp;go_at_call 60;refine HP2.out.mono ?_;rintro e w12 ⟨pa2,pc2,rfl,h12⟩;dsimp only
           have h12b:=h12.sel 8 [4,0,2,3,5,6] (by decide)
           have b4:=h12b.cell 4
           have z4:=h12b.froz 4
           simp [rwcs] at b4
           have hS:=h12b.setC 4 (.slice pa2 (pn+1) pc2)
           have hcc:(rwcs bs (.slice none 0 0) (T+1) (.slice mva ml mvc) (.slice pa pn pc)).setIfInBounds 4 (.slice pa2 (pn+1) pc2)=rwcs bs (.slice none 0 0) (T+1) (.slice mva ml mvc) (.slice pa2 (pn+1) pc2):=by simp [rwcs]
           rw [hcc] at hS
           have H12:Hid (Own w0 _ _):=hS
           clear h12 h12b hS hcc)
         all_goals exact hK' _ _ (Met.intro (HJ.out _ _ ⟨pa2,pc2,rfl,H12.out⟩))
        case rest =>
         intro a' w13 hcut
         obtain ⟨pa2,pc2,hact,hO⟩:=hcut
         obtain ⟨u7,hu⟩:∃ u7:Nat→Value,∀ k,gf a' k=u7 k:=⟨_,fun _=>rfl⟩
         simp only [hu] at hact
         clear hu
         subst hact
         clear HO HP2 kb ke kc1 kc2
         have HO:Hid (Own w0 _ _):=hO.sel 6 [2,3,0,1,4,5] (by decide)
         have m0:=HO.out.two.cell 0
         have m1:=HO.out.two.cell 1
         have m2:=HO.out.two.cell 2
         simp at m0 m1 m2
         clear hO
         go_wp2_with (at_builtin;refine append1_own rfl _ _ 106 rfl 121 i1 (.agg #[.int .u32 0,.int .u8 0,.int .u32 0]) 3 12 Tryz.underlying106 hi1 hy0 hy1 hy2 rfl (by decide) _ _ _ rfl HO.out _ #[.int .u32 (xi:Int),.int .u8 0,.int .u32 ((T:Int)+1)] (by simp) rfl rfl (by intro u hu;simp at hu;rcases hu with rfl | rfl | rfl <;> rfl) (by unfold maxLen;omega) (by omega) ?_)
         intro gm cm w20 hO20 hsz
         have HF:Hid (Own w0 w20 (Cells b (rwcs bs (.slice none 0 0) (T+1) (.slice mva ml mvc) (.slice pa2 (pn+1) pc2)) 109::Row 121 3 (.slice (some ⟨gm,0,none⟩) (mn+1) cm) (mn+1) (cat MkE.cs ((A2++[(xi,(⟨0,ca,cb,cc⟩:Cp))]).map (mkA σ M (T+1))))::Row 126 4 (.slice pa2 (pn+1) pc2) (pn+1) (cat PlE.cs ((A2++[(xi,(⟨0,ca,cb,cc⟩:Cp))]).foldl (plA σ) []))::Cells be #[.int .u32 (xi:Int),.slice (some ⟨gc,oc,none⟩) cl xc] 76::KeepT wa wc b2 σ x2 (some ⟨g,o,none⟩) nc bs σ4 x4 (.slice mva ml mvc) ml M (.slice ra el rc) el RR::l)):=by
          show Own _ _ _
          rw [List.map_append,List.foldl_append]
          show Own w0 w20 (_::Row _ 3 _ _ (cat MkE.cs (_++[mkA σ M (T+1) (xi,⟨0,ca,cb,cc⟩)]))::Row _ 4 _ _ (cat PlE.cs (plA σ _ (xi,⟨0,ca,cb,cc⟩)))::_)
          rw [HMK.out,HPA.out,cat_mk1]
          exact hO20.sel 6 [2,0,3,4,5] (by decide)
         clear hO20 HO hsz
         go_wp2
         exact ⟨⟨q+1,mn+1,cm,pn+1,pc2,some ⟨gm,0,none⟩,pa2,A2++[(xi,⟨0,ca,cb,cc⟩)],rfl,by omega,HA3.out,by rw [List.length_append,← HMN.out.1];rfl,by rw [List.foldl_append];show _=(plA σ _ _).length;rw [HPA.out,ins_len,← HMN.out.2],HF.out⟩,by simp [intOf];omega⟩
       ·have hk1:((c'k:Int) == 0)=false:=by rw [beq_eq_false_iff_ne];omega
        have HPA:Hid (∀ P,plA σ P (xi,⟨c'k,ca,cb,cc⟩)=P):=fun P=>by rw [HPB.out,if_neg hk0]
        have HO:Hid (Own w0 _ _):=h11.sel 8 [5,2,4,6,7,1] (by decide)
        have m0:=HO.out.two.cell 0
        have m1:=HO.out.two.cell 1
        have m2:=HO.out.two.cell 2
        have r0:=h11.four.cell 0
        have r1:=h11.four.cell 1
        have r2:=h11.four.cell 2
        have r3:=h11.four.cell 3
        simp at m0 m1 m2 r0 r1 r2 r3
        clear hk0 hf h11 HG HD e0 k0 HPB
        go_wp2_with (at_builtin;refine append1_own rfl _ _ 106 rfl 121 i1 (.agg #[.int .u32 0,.int .u8 0,.int .u32 0]) 3 12 Tryz.underlying106 hi1 hy0 hy1 hy2 rfl (by decide) _ _ _ rfl HO.out _ #[.int .u32 (xi:Int),.int .u8 (c'k:Int),.int .u32 ((T:Int)+1)] (by simp) rfl rfl (by intro u hu;simp at hu;rcases hu with rfl | rfl | rfl <;> rfl) (by unfold maxLen;omega) (by omega) ?_)
        intro gm cm w20 hO20 hsz
        have HF:Hid (Own w0 w20 (Cells b (rwcs bs (.slice none 0 0) (T+1) (.slice mva ml mvc) (.slice pa pn pc)) 109::Row 121 3 (.slice (some ⟨gm,0,none⟩) (mn+1) cm) (mn+1) (cat MkE.cs ((A2++[(xi,(⟨c'k,ca,cb,cc⟩:Cp))]).map (mkA σ M (T+1))))::Row 126 4 (.slice pa pn pc) pn (cat PlE.cs ((A2++[(xi,(⟨c'k,ca,cb,cc⟩:Cp))]).foldl (plA σ) []))::Cells be #[.int .u32 (xi:Int),.slice (some ⟨gc,oc,none⟩) cl xc] 76::KeepT wa wc b2 σ x2 (some ⟨g,o,none⟩) nc bs σ4 x4 (.slice mva ml mvc) ml M (.slice ra el rc) el RR::l)):=by
         show Own _ _ _
         rw [List.map_append,List.foldl_append]
         show Own w0 w20 (_::Row _ 3 _ _ (cat MkE.cs (_++[mkA σ M (T+1) (xi,⟨c'k,ca,cb,cc⟩)]))::Row _ 4 _ _ (cat PlE.cs (plA σ _ (xi,⟨c'k,ca,cb,cc⟩)))::_)
         rw [HMK.out,HPA.out,cat_mk1]
         exact hO20.sel 6 [2,0,3,4,5] (by decide)
        clear hO20 HO hsz
        go_wp2
        exact ⟨⟨q+1,mn+1,cm,pn,pc,some ⟨gm,0,none⟩,pa,A2++[(xi,⟨c'k,ca,cb,cc⟩)],rfl,by omega,HA3.out,by rw [List.length_append,← HMN.out.1];rfl,by rw [List.foldl_append];show _=(plA σ _ _).length;rw [HPA.out,← HMN.out.2],HF.out⟩,by simp [intOf];omega⟩
    ·have hqc':¬ ((q:Int) < (cl:Int)):=by omega
     have hqe:q=cl:=by omega
     subst hqe
     have HA4:Hid (allW ((seeL σ4 x4).take (i+1))=A2):=by
      show _=_
      rw [HST.out,HA2.out,← HCL.out,List.take_length]
     have HF:Hid (Own w0 wr _):=hO.sel 5 [0,1,2,4] (by decide)
     clear hO
     go_wp2
     exact ⟨⟨i+1,mn,mc,pn,pc,ma,by simp,by omega,by rw [HA4.out];exact HMN.out.1,by rw [HA4.out];exact HMN.out.2,pa,by rw [HA4.out];exact HF.out⟩,by simp [intOf];omega⟩
  ·have hlt':¬ ((i:Int) < (nn:Int)):=by omega
   have hie:nn=i:=by omega
   subst hie
   have HA5:Hid (A=allS σ4):=by
    show _=_
    rw [HAA.out,← HNL.out.2,← HNL.out.1,List.take_length]
   obtain ⟨P0,hP0⟩:∃ P0,P0=A.foldl (plA σ) []:=⟨_,rfl⟩
   have HP0:Hid (P0=A.foldl (plA σ) []):=hP0
   rw [← hP0] at hO HMN
   have hP0l:P0.length≤6144:=by have:=HMN.out.2;omega
   have HF:Hid (Own w0 wr _):=hO
   clear hO hP0
   go_wp2
   refine wp_loop (fun a' wr=>∃ (pn pc:Nat) (pa:Option Addr) (i:Nat),a'={ tmps:=#[.pointer (some ⟨b,0,none⟩),gf a' 1,gf a' 2,gf a' 3,.slice wa wn wc,gf a' 5,.slice ra el rc,.slice na nn nc,.slice ma mn mc,gf a' 9,gf a' 10,gf a' 11,gf a' 12,gf a' 13,gf a' 14,gf a' 15,gf a' 16,gf a' 17,gf a' 18,gf a' 19,gf a' 20,gf a' 21,gf a' 22,gf a' 23,gf a' 24,gf a' 25,gf a' 26,gf a' 27,gf a' 28,gf a' 29,gf a' 30,gf a' 31,gf a' 32,gf a' 33,gf a' 34,gf a' 35,gf a' 36,gf a' 37,gf a' 38,gf a' 39,gf a' 40,gf a' 41,gf a' 42,gf a' 43,gf a' 44,gf a' 45,gf a' 46,gf a' 47,gf a' 48,gf a' 49,gf a' 50,gf a' 51,gf a' 52,gf a' 53,gf a' 54,gf a' 55,gf a' 56,gf a' 57,gf a' 58,gf a' 59,gf a' 60,gf a' 61,gf a' 62,gf a' 63,gf a' 64,gf a' 65,gf a' 66,gf a' 67,gf a' 68,gf a' 69,gf a' 70,gf a' 71,gf a' 72,gf a' 73,gf a' 74,gf a' 75,gf a' 76,gf a' 77,gf a' 78,gf a' 79,gf a' 80,gf a' 81,gf a' 82,gf a' 83,gf a' 84,gf a' 85,gf a' 86,gf a' 87,gf a' 88,gf a' 89,gf a' 90,gf a' 91,gf a' 92,gf a' 93,gf a' 94,gf a' 95,gf a' 96,gf a' 97,gf a' 98,gf a' 99,gf a' 100,gf a' 101,gf a' 102,gf a' 103,gf a' 104,gf a' 105,gf a' 106,gf a' 107,gf a' 108,gf a' 109,gf a' 110,gf a' 111,gf a' 112,gf a' 113,gf a' 114,gf a' 115,gf a' 116,gf a' 117,gf a' 118,gf a' 119,gf a' 120,gf a' 121,gf a' 122,gf a' 123,gf a' 124,gf a' 125,gf a' 126,gf a' 127,gf a' 128,gf a' 129,gf a' 130,gf a' 131,gf a' 132,gf a' 133,gf a' 134,gf a' 135,gf a' 136,gf a' 137,gf a' 138,gf a' 139,gf a' 140,gf a' 141,gf a' 142,gf a' 143,gf a' 144,gf a' 145,gf a' 146,gf a' 147,.slice wa wn wc,.int .i64 (wn:Int),.int .i64 (i:Int),gf a' 151,gf a' 152,gf a' 153,gf a' 154,gf a' 155,gf a' 156,gf a' 157,gf a' 158,gf a' 159,gf a' 160,gf a' 161,gf a' 162,gf a' 163,gf a' 164,gf a' 165,gf a' 166,gf a' 167,gf a' 168,gf a' 169,gf a' 170,gf a' 171,gf a' 172,gf a' 173,gf a' 174,gf a' 175,gf a' 176,gf a' 177,gf a' 178,gf a' 179,gf a' 180,gf a' 181,gf a' 182,gf a' 183,gf a' 184,gf a' 185,gf a' 186,gf a' 187,gf a' 188],defers:=[] }∧i≤wn∧pn=((σ.S.list.take i).foldl (plB σ σ4) P0).length∧Own w0 wr (Cells b (rwcs bs (.slice none 0 0) (T+1) (.slice mva ml mvc) (.slice pa pn pc)) 109::Row 121 3 (.slice ma mn mc) mn (cat MkE.cs (A.map (mkA σ M (T+1))))::Row 126 4 (.slice pa pn pc) pn (cat PlE.cs ((σ.S.list.take i).foldl (plB σ σ4) P0))::KeepT wa wc b2 σ x2 na nc bs σ4 x4 (.slice mva ml mvc) ml M (.slice ra el rc) el RR::l)) (fun a' _=>wn - (intOf (a'.tmps.getD 150 undef)).toNat) ?_ ?_
   ·exact ⟨pn,pc,pa,0,rfl,Nat.zero_le _,HMN.out.2,HF.out⟩
   ·intro a' wr hI
    obtain ⟨pn,pc,pa,i,hact,hi,hpn,hO⟩:=hI
    obtain ⟨u3,hu⟩:∃ u3:Nat→Value,∀ k,gf a' k=u3 k:=⟨_,fun _=>rfl⟩
    simp only [hu] at hact
    clear hu
    subst hact
    clear HF
    have HMA:Hid (mn=A.length):=HMN.out.1
    clear HMN
    obtain ⟨D,hD⟩:∃ D,D=(σ.S.list.take i).foldl (plB σ σ4) P0:=⟨_,rfl⟩
    rw [← hD] at hpn hO
    have HD:Hid (D=(σ.S.list.take i).foldl (plB σ σ4) P0):=hD
    have hDl:D.length≤6144+1024:=by
     rw [hD]
     refine Nat.le_trans (plB_len _ _ _ _) ?_
     have:(σ.S.list.take i).length≤i:=by rw [List.length_take];exact Nat.min_le_left _ _
     omega
    have HPN:Hid (pn=D.length):=hpn
    have hpn3:pn≤7168:=by omega
    clear hD hpn hDl
    by_cases hlt:i < wn
    ·have hlt':(i:Int) < (wn:Int):=by omega
     obtain ⟨y,hy⟩:∃ y,(seeL σ x2)[i]? = some y:=⟨_,List.getElem?_eq_getElem (by rw [seeL_len,HWN.out];exact hlt)⟩
     have hyl:=seeL_get HX2.out Hσ.out hy
     have hy32:=(St.list_w Hσ.out.s (List.mem_of_getElem? hyl)).2
     have HST:Hid ((σ.S.list.take (i+1)).foldl (plB σ σ4) P0=plB σ σ4 D y.id):=by
      show _=_
      rw [List.take_add_one,hyl,HD.out,List.foldl_append]
      rfl
     obtain ⟨g,o,hga,c0,c1,_⟩:=(HWE.out wr _ hO.four).at hy
     subst hga
     have hB:=hO.allocC #[.int .u32 (y.id:Int),.slice y.ao y.C.length y.cap] 76
     have HB:Hid (Own w0 _ _):=hB.sel 5 [0,4,1,2,3] (by decide)
     clear hO hB hy hyl
     obtain ⟨xi,xa,xc,C⟩:=y
     simp only at c0 c1 hy32 HST HB
     obtain ⟨cl,hcl⟩:∃ cl,C.length=cl:=⟨_,rfl⟩
     rw [hcl] at c1 HB
     clear hcl
     obtain ⟨be,hbe⟩:∃ be,wr.heap.size=be:=⟨_,rfl⟩
     rw [hbe] at HB
     have e0:=HB.out.cell 0
     simp at e0
     have HG:Hid (Calls _ _ _ _ _):=HGW.out _ _ xi 0 (by decide) HB.out.two
     cases hgc:gcp σ xi 0 with
     | none =>
      rw [hgc] at HG
      unfold gag at HG
      simp only [Option.getD_none,Option.isSome_none,Cp.ag] at HG
      have HPE:Hid (plB σ σ4 D xi=D):=by
       show _=_
       unfold plB
       rw [hgc]
       rfl
      clear hgc
      go_wp2_with fail
      refine HG.out.mono ?_
      rintro e w11 ⟨rfl,hf⟩
      have h11:=(HB.out.quiet hf).allocC #[.int .u8 0,.int .i32 0,.int .i32 0,.int .i32 0] 46
      have HF:Hid (Own w0 _ _):=h11.sel 6 [3,4,5,2] (by decide)
      clear HG HB hf h11 e0
      go_wp2
      exact ⟨⟨pn,pc,pa,i+1,by first | rfl | simp,by omega,by rw [HST.out,HPE.out];exact HPN.out,by rw [HST.out,HPE.out];exact HF.out⟩,by simp [intOf];omega⟩
     | some c' =>
      obtain ⟨c'k,oa,ob,od⟩:=c'
      rw [hgc] at HG
      unfold gag at HG
      simp only [Option.getD_some,Option.isSome_some,Cp.ag] at HG
      have HPC:Hid (plB σ σ4 D xi=if (gcp σ4 xi 0).isNone=true then ins D ⟨xi,false,0,0⟩ else D):=by
       show _=_
       unfold plB
       rw [hgc]
       rfl
      clear hgc
      go_wp2_with fail
      refine HG.out.mono ?_
      rintro e w11 ⟨rfl,hf⟩
      have h11:=(HB.out.quiet hf).allocC #[.int .u8 (c'k:Int),.int .i32 oa,.int .i32 ob,.int .i32 od] 46
      have f0:=h11.two.cell 0
      simp at f0
      have HG2:Hid (Calls _ _ _ _ _):=HGN.out _ _ xi 0 (by decide) h11.three
      have HH:Hid (Own w0 _ _):=h11
      clear HG HB hf h11 e0
      cases hgn:gcp σ4 xi 0 with
      | none =>
       rw [hgn] at HG2 HPC
       unfold gag at HG2
       simp only [Option.getD_none,Option.isSome_none,Cp.ag] at HG2
       have HPE:Hid (plB σ σ4 D xi=ins D ⟨xi,false,0,0⟩):=by
        show _=_
        rw [HPC.out]
        rfl
       clear hgn HPC
       go_wp2_with fail
       refine HG2.out.mono ?_
       rintro e w12 ⟨rfl,hf⟩
       have h12:=(HH.out.quiet hf).allocC #[.int .u8 0,.int .i32 0,.int .i32 0,.int .i32 0] 46
       have HO:Hid (Own w0 _ _):=h12.sel 7 [6,5,4,2,3] (by decide)
       have HP2:Hid (Calls _ _ _ _ _):=rput15 w0 _ _ HO.out.drew pa pn pc D HPN.out.symm (fun w' hw'=>pls_row hw'.row HPN.out.symm) (by omega) xi false 0 0 ⟨xi,false,0,0⟩ rfl
       clear HG2 HH hf h12 f0
       go_wp2_with fail
       have kb:=HO.out.three.cell 4
       have ke:=HO.out.four.cell 0
       simp [rwcs] at kb ke
       go_wp2_with fail
       rw [inBlock_then]
       refine wp_cut (fun a' w'=>∃ (pa2:Option Addr) (pc2:Nat),a'={ tmps:=#[.pointer (some ⟨b,0,none⟩),gf a' 1,gf a' 2,gf a' 3,.slice (some ⟨g,o,none⟩) wn wc,gf a' 5,.slice ra el rc,.slice na nn nc,.slice ma mn mc,gf a' 9,gf a' 10,gf a' 11,gf a' 12,gf a' 13,gf a' 14,gf a' 15,gf a' 16,.pointer (some ⟨be,0,none⟩),gf a' 18,gf a' 19,gf a' 20,gf a' 21,gf a' 22,gf a' 23,gf a' 24,gf a' 25,gf a' 26,gf a' 27,gf a' 28,gf a' 29,gf a' 30,gf a' 31,gf a' 32,gf a' 33,gf a' 34,gf a' 35,gf a' 36,gf a' 37,gf a' 38,gf a' 39,gf a' 40,gf a' 41,gf a' 42,gf a' 43,gf a' 44,gf a' 45,gf a' 46,gf a' 47,gf a' 48,gf a' 49,gf a' 50,gf a' 51,gf a' 52,gf a' 53,gf a' 54,gf a' 55,gf a' 56,gf a' 57,gf a' 58,gf a' 59,gf a' 60,gf a' 61,gf a' 62,gf a' 63,gf a' 64,gf a' 65,gf a' 66,gf a' 67,gf a' 68,gf a' 69,gf a' 70,gf a' 71,gf a' 72,gf a' 73,gf a' 74,gf a' 75,gf a' 76,gf a' 77,gf a' 78,gf a' 79,gf a' 80,gf a' 81,gf a' 82,gf a' 83,gf a' 84,gf a' 85,gf a' 86,gf a' 87,gf a' 88,gf a' 89,gf a' 90,gf a' 91,gf a' 92,gf a' 93,gf a' 94,gf a' 95,gf a' 96,gf a' 97,gf a' 98,gf a' 99,gf a' 100,gf a' 101,gf a' 102,gf a' 103,gf a' 104,gf a' 105,gf a' 106,gf a' 107,gf a' 108,gf a' 109,gf a' 110,gf a' 111,gf a' 112,gf a' 113,gf a' 114,gf a' 115,gf a' 116,gf a' 117,gf a' 118,gf a' 119,gf a' 120,gf a' 121,gf a' 122,gf a' 123,gf a' 124,gf a' 125,gf a' 126,gf a' 127,gf a' 128,gf a' 129,gf a' 130,gf a' 131,gf a' 132,gf a' 133,gf a' 134,gf a' 135,gf a' 136,gf a' 137,gf a' 138,gf a' 139,gf a' 140,gf a' 141,gf a' 142,gf a' 143,gf a' 144,gf a' 145,gf a' 146,gf a' 147,.slice (some ⟨g,o,none⟩) wn wc,.int .i64 (wn:Int),.int .i64 (i:Int),gf a' 151,gf a' 152,gf a' 153,gf a' 154,gf a' 155,gf a' 156,gf a' 157,gf a' 158,gf a' 159,gf a' 160,gf a' 161,gf a' 162,gf a' 163,gf a' 164,gf a' 165,gf a' 166,gf a' 167,gf a' 168,gf a' 169,gf a' 170,gf a' 171,gf a' 172,gf a' 173,gf a' 174,gf a' 175,gf a' 176,gf a' 177,gf a' 178,gf a' 179,gf a' 180,gf a' 181,gf a' 182,gf a' 183,gf a' 184,gf a' 185,gf a' 186,gf a' 187,gf a' 188],defers:=[] }∧Own w0 w' (Cells b (rwcs bs (.slice none 0 0) (T+1) (.slice mva ml mvc) (.slice pa2 (pn+1) pc2)) 109::Row 121 3 (.slice ma mn mc) mn (cat MkE.cs (A.map (mkA σ M (T+1))))::Row 126 4 (.slice pa2 (pn+1) pc2) (pn+1) (cat PlE.cs (ins D ⟨xi,false,0,0⟩))::KeepT (some ⟨g,o,none⟩) wc b2 σ x2 na nc bs σ4 x4 (.slice mva ml mvc) ml M (.slice ra el rc) el RR::l)) ?rest ?first
       case first =>
        intro J K' hJ hK'
        have HJ:Hid _:=hJ
        clear hJ
        go_region_law
         (go_simp;go_at_call 60;refine HP2.out.mono ?_;rintro e w13 ⟨pa2,pc2,rfl,h13⟩;dsimp only
          have h13b:=h13.sel 6 [3,0,2,5] (by decide)
          have b4:=h13b.cell 4
          have z4:=h13b.froz 4
          simp [rwcs] at b4
          have hS:=h13b.setC 4 (.slice pa2 (pn+1) pc2)
          have hcc:(rwcs bs (.slice none 0 0) (T+1) (.slice mva ml mvc) (.slice pa pn pc)).setIfInBounds 4 (.slice pa2 (pn+1) pc2)=rwcs bs (.slice none 0 0) (T+1) (.slice mva ml mvc) (.slice pa2 (pn+1) pc2):=by simp [rwcs]
          rw [hcc] at hS
          have H13:Hid (Own w0 _ _):=hS.sel 4 [0,2,1,3] (by decide)
          clear h13 h13b hS hcc)
        all_goals exact hK' _ _ (Met.intro (HJ.out _ _ ⟨pa2,pc2,rfl,H13.out⟩))
       case rest =>
        intro a' w14 hcut
        obtain ⟨pa2,pc2,hact,hO⟩:=hcut
        obtain ⟨u8,hu⟩:∃ u8:Nat→Value,∀ k,gf a' k=u8 k:=⟨_,fun _=>rfl⟩
        simp only [hu] at hact
        clear hu
        subst hact
        have HF:Hid (Own w0 _ _):=hO
        clear HO HP2 kb ke hO
        go_wp2
        exact ⟨⟨pn+1,pc2,pa2,i+1,by first | rfl | simp,by omega,by rw [HST.out,HPE.out,ins_len,← HPN.out],by rw [HST.out,HPE.out];exact HF.out⟩,by simp [intOf];omega⟩
      | some d' =>
       obtain ⟨d'k,da,db,dd⟩:=d'
       rw [hgn] at HG2 HPC
       unfold gag at HG2
       simp only [Option.getD_some,Option.isSome_some,Cp.ag] at HG2
       have HPE:Hid (plB σ σ4 D xi=D):=by
        show _=_
        rw [HPC.out]
        rfl
       clear hgn HPC
       go_wp2_with fail
       refine HG2.out.mono ?_
       rintro e w12 ⟨rfl,hf⟩
       have h12:=(HH.out.quiet hf).allocC #[.int .u8 (d'k:Int),.int .i32 da,.int .i32 db,.int .i32 dd] 46
       have HF:Hid (Own w0 _ _):=h12.sel 7 [4,5,6,3] (by decide)
       clear HG2 HH hf h12 f0
       go_wp2
       exact ⟨⟨pn,pc,pa,i+1,by first | rfl | simp,by omega,by rw [HST.out,HPE.out];exact HPN.out,by rw [HST.out,HPE.out];exact HF.out⟩,by simp [intOf];omega⟩
    ·have hlt':¬ ((i:Int) < (wn:Int)):=by omega
     have hie:wn=i:=by omega
     subst hie
     have HDD:Hid (D=σ.S.list.foldl (plB σ σ4) P0):=by
      show _=_
      rw [HD.out,← HWN.out,List.take_length]
     have p3:=hO.cell 3
     have y3:=hO.froz 3
     simp [rwcs] at p3
     have h2:=hO.setC 3 (.slice ma mn mc)
     have hcc:(rwcs bs (.slice none 0 0) (T+1) (.slice mva ml mvc) (.slice pa pn pc)).setIfInBounds 3 (.slice ma mn mc)=rwcs bs (.slice none 0 0) (T+1) (.slice ma mn mc) (.slice pa pn pc):=by simp [rwcs]
     rw [hcc] at h2
     have HF:Hid (Own w0 _ _):=h2
     clear hO h2 hcc
     go_wp2
     go_ret2
     have HX:RWd.next ⟨T,σ,E,M,P⟩ K=⟨T+1,σ4,[],A.map (mkA σ M (T+1)),D⟩:=by
      rw [HNX.out,HSY.out,HDD.out,HP0.out,HA5.out]
     rw [HX]
     refine ⟨ra,rc,rfl,HOK4.out,?_⟩
     have hR:=RSto.mk HX4.out (HF.out.four.keepO.two.seeO).two
     have hk:K+2*el+1024+1024+1024=K+2*el+3072:=by omega
     rw [hk] at hR
     have hN:=hR.nilRow 41 4
     have hW:=Own.wtS (E:=[]) hN
     have e1:mn=(A.map (mkA σ M (T+1))).length:=by rw [List.length_map];exact HMA.out
     have e2:pn=D.length:=HPN.out
     have hE:Own w0 (wr.setCell ⟨b,3,none⟩ (.slice ma mn mc)) (RSto bs σ4 (K+2*el+3072)::Cells b (rwcs bs (.slice none 0 0) (T+1) (.slice ma mn mc) (.slice pa pn pc)) 109::WtT (.slice none 0 0) []::Row 121 3 (.slice ma mn mc) (A.map (mkA σ M (T+1))).length (cat MkE.cs (A.map (mkA σ M (T+1))))::Row 126 4 (.slice pa pn pc) D.length (cat PlE.cs D)::Row 89 2 (.slice ra el rc) el (cat rcel RR)::l):=by
      rw [← e1,← e2]
      exact hW.sel 9 [1,6,0,7,8,5] (by decide)
     exact (Own.rwS (x:=⟨T+1,σ4,[],A.map (mkA σ M (T+1)),D⟩) hE).two
end Go.Proofs.YtogmdoiecpihdaaGreatDoor
