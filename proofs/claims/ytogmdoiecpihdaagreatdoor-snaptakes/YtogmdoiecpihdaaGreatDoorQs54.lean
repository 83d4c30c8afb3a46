/- Of any world any entities are told as they are, or it is told why they can't be: SnapTakes returns true, whatever its arguments, where the table of the components lies as the program's text lays it, and changes nothing that was there. -/
import Derived.Test.YtogmdoiecpihdaaGreatDoorQs52
import Derived.Test.YtogmdoiecpihdaaGreatDoorQs48
import Derived.OpenShut
import Derived.SevenTiedAt
namespace Go.Proofs.YtogmdoiecpihdaaGreatDoor
open Go.ChangeShapes Go.WideShapes Go.ChangeAt Go.RowKit Go.Maps
set_option linter.unusedVariables false
set_option maxHeartbeats 16000000
set_option maxRecDepth 100000
theorem tval_in {σ:Sto} (hσ:σ.Ok) {ids:List Nat} {e:En} (he:e∈tval σ ids):e.1 < 4294967296∧e.2.length≤6∧∀ q∈e.2,q.k < 256:=by
 unfold tval at he
 split at he
 ·rename_i h
  unfold tcode at h
  split at h
  ·cases h
  ·split at h
   ·cases h
   ·rename_i ha
    have ha2:=List.all_eq_true.1 ((Bool.not_eq_false _).mp ha)
    unfold tks at he
    obtain ⟨id,hid,rfl⟩:=List.mem_map.1 he
    have hin:id∈σ.S.list:=of_decide_eq_true (ha2 id hid)
    have hl:=St.list_w hσ.s hin
    obtain ⟨h1,h2⟩:=Sto.cps_in hσ hl.1
    exact ⟨hl.2,Nat.le_trans (toldL_le _) h2,fun q hq=>h1 q (List.mem_filter.1 hq).1⟩
 ·cases he
theorem tval_len (σ:Sto) (ids:List Nat):(tval σ ids).length≤ids.length:=by
 unfold tval
 split
 ·simp [tks]
 ·simp
theorem snapTakes_fr (w:World) (ht:Tab w) (ao:Option Addr) (len cap:Nat) (Q:List LsoE) (hQ:IsLsos w ao len cap Q) (ia:Option Addr) (il ic:Nat) (zs:List Int) (hI:IsRow .u32 w ia il ic zs) :
  Calls Tryz.prog 4 #[.slice ao len cap,.slice ia il ic] w fun e w'=>e=.returned (.bool true)∧Fr Nobody w w':=by
 have HT:Hid (Tab w):=ht
 have HAW:Hid (Calls _ _ _ _ _):=awake18 w ht
 have HRU:Hid (∀ W,Fr Nobody w W→_):=fun W hf=>run18 w ht W hf ao len cap Q hQ
 obtain ⟨m,hm⟩:∃ m,m=min il 60:=⟨_,rfl⟩
 have hmin:min (il:Int) 60=(m:Int):=by omega
 have hm1:m≤il:=by omega
 have hm60:m≤60:=by omega
 obtain ⟨ids,hil,hi32,hnu⟩:=ids_in hI m hm1
 have HM:Hid (ids.length=m):=hil
 have HI32:Hid (∀ id∈ids,id < 4294967296):=hi32
 have HNU:Hid (∀ w',Fr Nobody w w'→Nums .u32 w' (.slice ia ids.length ic) ids):=hnu
 have hcc:il≤ic∧ic≤9223372036854775807∧(ia=none→ic=0):=by
  rcases hI with ⟨rfl,rfl,rfl,rfl⟩ | ⟨x,rfl,h1,h2,_⟩
  ·exact ⟨Nat.le_refl _,by decide,fun _=>rfl⟩
  ·unfold maxLen at h2
   exact ⟨h1,by omega,fun h=>(by cases h)⟩
 obtain ⟨hc1,hc2,hc3⟩:=hcc
 have HC3:Hid (ia=none→ic=0):=hc3
 have hmc:m≤ic:=by omega
 clear ht hQ hm hI hil hi32 hnu hc3
 go_enter Tryz.func4,Tryz.ntmps4
 go_wp2_with fail
 refine HAW.out.mono ?_
 rintro e w1 ⟨rfl,hf⟩
 have HC:Hid (Calls _ _ _ _ _):=HRU.out w1 hf
 clear hf HAW HRU
 go_wp2_with fail
 refine HC.out.mono ?_
 rintro e w2 ⟨ba,bb,x,y,K,n,K2,rfl,hj,hK,hn,hK2,hO⟩
 have H2:Hid (Own w w2 [WdT ba x K n,RWdT bb y K2]):=hO
 have HJ:Hid (JW x y):=hj
 clear hO HC hj
 go_wp2_with (at_builtin;refine copy_ids rfl _ _ rfl ia m ic ids H2.out (by have:=HNU.out w2 H2.out.fr;rw [HM.out] at this;exact this) HM.out (by omega) HC3.out _ rfl rfl rfl ?_)
 intro ca cc w3 hO3
 have hT:=take_any w w3 HT.out [RWdT bb y K2,Row 38 1 (.slice ca ids.length cc) ids.length (irow .u32 ids)] ba K n x HJ.out.ok (by omega) ca cc ids (fun w' hw=>hw.two.nums) (by rw [HM.out];omega) HI32.out (by rw [HM.out];exact hO3.sel 3 [1,2,0] (by decide))
 have HTK:Hid (Calls _ _ _ _ _):=hT
 simp only [HM.out] at HTK
 clear hO3 hT H2
 go_wp2_with fail
 refine HTK.out.mono ?_
 rintro e w4 ⟨a4,c4,M,rfl,hM,hO⟩
 have hR:=rtake15 w w4 [EntsT a4 c4 M,WdT ba x K n,Row 38 1 (.slice ca m cc) m (irow .u32 ids)] bb K2 y (by rw [HJ.out.σ];exact HJ.out.ok) (by omega) ia ic ids (fun w' hw=>HNU.out w' hw.fr) (by rw [HM.out];omega) (hO.sel 4 [2,0,1,3] (by decide))
 have HRK:Hid (Calls _ _ _ _ _):=hR
 rw [HM.out] at HRK
 have HMV:Hid (evs M=tval x.σ ids):=hM
 clear hO hR hM HTK
 go_wp2_with fail
 refine HRK.out.mono ?_
 rintro e w5 ⟨a5,c5,M5,rfl,hM5,hO⟩
 rw [HJ.out.σ] at hM5
 have HM5:Hid (evs M5=tval x.σ ids):=hM5
 have HNT:Hid (Calls _ _ _ _ _):=snapTake_nil w5
 have H5:Hid (Own w w5 [EntsT a5 c5 M5,RWdT bb y K2,EntsT a4 c4 M,WdT ba x K n,Row 38 1 (.slice ca m cc) m (irow .u32 ids)]):=hO
 clear hO HRK hM5
 go_wp2_with fail
 refine HNT.out.mono ?_
 rintro e w6 ⟨rfl,hf⟩
 have H6:Hid (Own w w6 _):=H5.out.quiet hf
 have hz:∀ L:List EnE,evs L=tval x.σ ids→esz L≤1000:=fun L hL=>by
  have h1:csz L≤6*L.length:=csz_six (fun z hz=>by
   have h2:(z.id,z.C)∈evs L:=List.mem_map.2 ⟨z,hz,rfl⟩
   rw [hL] at h2
   exact (tval_in HJ.out.ok h2).2.1)
  have h2:=congrArg List.length hL
  rw [evs_len] at h2
  have h3:=tval_len x.σ ids
  have h4:=HM.out
  unfold esz
  omega
 have hz1:=hz M HMV.out
 have hz2:=hz M5 HM5.out
 have HSM:Hid (Calls _ _ _ _ _):=sameEnts_any w6 a4 a5 M.length M5.length c4 c5 M M5 H6.out.three.entsAt H6.out.entsAt rfl rfl (by omega) (by omega)
 have hev:decide (evs M=evs M5)=true:=decide_eq_true (HMV.out.trans HM5.out.symm)
 rw [hev] at HSM
 rw [HJ.out.σ]
 have HFM:Hid (∀ W,Own w W [EntsT a5 c5 M5,RWdT bb y K2,EntsT a4 c4 M,WdT ba x K n,Row 38 1 (.slice ca m cc) m (irow .u32 ids)]→Calls Tryz.prog 27 #[.slice a4 M.length c4] W fun e w'=>e=.returned (.int .i64 ((fm 0 (evs M):Nat):Int))∧Fr Nobody W w'):=fun W hW=>form_any W (HT.out.quiet hW.fr) a4 M.length c4 M hW.three.entsAt rfl (fun z hz=>by
   have h2:(z.id,z.C)∈evs M:=List.mem_map.2 ⟨z,hz,rfl⟩
   rw [HMV.out] at h2
   have h3:=tval_in HJ.out.ok h2
   exact ⟨h3.1,h3.2.2⟩) (by omega)
 have HFT:Hid (tcode x.σ ids=0→fm 0 (evs M)=0):=fun h=>by rw [HMV.out];exact fm_take HJ.out.ok h
 generalize tcode x.σ ids=tc at *
 clear hf HNT H5 hz hz1 hz2 hev
 generalize M5.length=m5 at *
 go_wp2_with fail
 refine HSM.out.mono ?_
 rintro e w7 ⟨rfl,hf⟩
 have H7:Hid (Own w w7 _):=H6.out.quiet hf
 have HF7:Hid (Fr Nobody w w7):=H7.out.fr
 clear hf HSM H6
 by_cases htc:tc=0
 ·subst htc
  have HC8:Hid (Calls _ _ _ _ _):=HFM.out w7 H7.out
  rw [HFT.out rfl] at HC8
  generalize M.length=ml at *
  go_wp2_with fail
  refine HC8.out.mono ?_
  rintro e w8 ⟨rfl,hf⟩
  have HF8:Hid (Fr Nobody w w8):=HF7.out.trans hf
  clear hf HC8
  go_wp2
  go_ret
  exact ⟨rfl,HF8.out⟩
 ·have htc':((tc:Int) != 0)=true:=by rw [bne_iff_ne];omega
  clear htc
  go_wp2
  go_ret
  exact ⟨rfl,HF7.out⟩
theorem snapTakes_walk (w:World) (ht:Tab w) (a0:Option Addr) (len0 cap0:Nat) (z0:List LsoE) (w0:IsLsos w a0 len0 cap0 z0) (a1:Option Addr) (len1 cap1:Nat) (z1:List Int) (w1:IsRow .u32 w a1 len1 cap1 z1) :
  Calls Tryz.prog 4 #[.slice a0 len0 cap0,.slice a1 len1 cap1] w fun e w'=>e=.returned (.bool true)∧Below w.heap.size w w':=by
 refine (snapTakes_fr w ht a0 len0 cap0 z0 w0 a1 len1 cap1 z1 w1).mono ?_
 rintro e w' ⟨rfl,hf⟩
 exact ⟨rfl,hf.below (Nat.le_refl _) (fun _ _=>id)⟩
theorem laidOut:laidOutB Tryz.prog=true:=by kernel_rfl
set_option maxRecDepth 100000 in
theorem snapTakes_lifted (os:Os) (started:os.Started) (H:Type) (enc:TypeId × Value→H) :
  ReturnsInHanded {} Tryz.checked os 4 .any (fun w args=>(Rows.snapTakesSpec.pre enc Tryz.prog Tryz.f4 [] false w args∧laidMetH Tryz.prog laid1 w)∧sizedMet enc Tryz.prog Tryz.f4 (OpenSpec.ofChange Rows.snapTakesSpec) false w args) (Rows.snapTakesSpec.post enc Tryz.prog Tryz.f4 false true false false):=by
 refine returnsInHanded_of_change_and (C:=Tryz.checked) (X:=fun w _=>laidMetH Tryz.prog laid1 w) (fun _ _ _ hh h=>h.of_heap hh) own started (by kernel_rfl) Tryz.func4
  (ChangeSpec.witness_shaped (enc:=enc) (C:=Tryz.checked) (os:=os) (X:=fun w _=>laidMetH Tryz.prog laid1 w) false (World.doorLaid Tryz.prog 400 os) #[.slice none 0 0,.slice none 0 0] 8 rfl (World.shaped_of_RefB (by kernel_rfl) (by kernel_rfl)) (by kernel_rfl) (by kernel_rfl) (by kernel_rfl) (door_met os _)) ?_
 intro W base args ds gs before hval0 hW _ _ hL _
 have hval:∀ (j:Nat) t v,Tryz.f4.params[j]? = some t→args[j]? = some v→Value.okWide Tryz.prog W .any base t v:=hval0
 have hW':=hW
 obtain ⟨p,q,hA0,hV,rfl,hfz,hnd⟩:=hW
 have hA:DataW.TrodAll enc Tryz.prog W 0 (fun _=>true) true Tryz.f4.params.toList args.toList ds p:=hA0
 rw [Tryz.params4] at hA hval
 obtain ⟨v0,vs0,d0,ds0,p0,q0,hargs,rfl,rfl,h0,r0⟩:=trodAll_cons hA
 obtain ⟨v1,vs1,d1,ds1,p1,q1,rfl,rfl,rfl,h1,r1⟩:=trodAll_cons r0
 obtain ⟨rfl,rfl,rfl⟩:=trodAll_nil r1
 obtain rfl:args=#[v0,v1]:=by cases args;simp_all
 obtain ⟨rfl,rfl⟩:=trodVars_none hV
 obtain ⟨a0,len0,cap0,rfl⟩:=okWide_slice Tryz.underlying59 (hval 0 59 v0 rfl rfl)
 have k0:=h0
 have lt0:∀ x∈p0,x.block < W.heap.size:=by obtain ⟨m,hm⟩:=k0;exact DataW.trod_lt m _ _ _ hm
 obtain ⟨z0,w0⟩:=open_lsos (hval 0 59 _ rfl rfl) h0
 obtain ⟨a1,len1,cap1,rfl⟩:=okWide_slice Tryz.underlying55 (hval 1 55 v1 rfl rfl)
 have k1:=h1
 have lt1:∀ x∈p1,x.block < W.heap.size:=by obtain ⟨m,hm⟩:=k1;exact DataW.trod_lt m _ _ _ hm
 obtain ⟨z1,w1⟩:∃ zs,IsRow .u32 W a1 len1 cap1 zs:=by
  obtain ⟨fuel,hf⟩:=h1
  rcases open_ints Tryz.underlying55 Tryz.underlying38 (by kernel_rfl) hf with ⟨hcs,_⟩ | ⟨x,l,c,zs,hcs,_,hl,hm,hz,_,hcell,hwz⟩
  ·simp [Value.cells] at hcs
   obtain ⟨rfl,rfl,rfl⟩:=hcs
   exact ⟨[],.inl ⟨rfl,rfl,rfl,rfl⟩⟩
  ·simp [Value.cells] at hcs
   obtain ⟨rfl,rfl,rfl⟩:=hcs
   exact ⟨zs,.inr ⟨_,rfl,hl,hm,by simpa using hz,hcell,hwz⟩⟩
 clear hA0 hval0
 refine (snapTakes_walk W (of_laid hL) a0 len0 cap0 z0 w0 a1 len1 cap1 z1 w1).mono fun e W' ⟨he,bel⟩=>?_
 subst he
 exact ⟨_,rfl,_,_,_,[],_,[],hW',trodAll_mk1 (shut_bool Tryz.underlying4 _),(trodAll_cons_mk (Below.trod laidOut (by kernel_rfl) (of_decide_eq_true (by kernel_rfl)) k0 bel lt0) (trodAll_cons_mk (Below.trod laidOut (by kernel_rfl) (of_decide_eq_true (by kernel_rfl)) k1 bel lt1) trodAll_mk0)),rfl,bel.frame _,fun h=>by cases h⟩
theorem snapTakes_row:Rows.SnapTakesSaid :=
 OpenClaim.holds_of_wide 4 Tryz.f4 rfl rfl rfl rfl rfl rfl rfl ⟨rfl,rfl,rfl,rfl,rfl⟩ rfl rfl rfl rfl rfl (by kernel_rfl) Tryz.func4 (by kernel_rfl)
  (of_decide_eq_true (by kernel_rfl)) (by unfold Func.isWrapper;first | (rw [if_pos (by decide +kernel)];kernel_rfl) | (rw [if_neg (by decide +kernel)];exact ⟨rfl,rfl⟩))
  (fun os started H enc _=>snapTakes_lifted os started H enc)
theorem snapTakes_holds:Rows.SnapTakesCardSaid :=
 Claim7.holds_tied_plain_at .later [] [.data] true (true,"4b41c9bd5891817d31698d06efdb6009454ae84fba62bff55935f977f7490441") false
  snapTakes_row (fun _ h=>by cases h) (by kernel_rfl) (fun _ h=>by cases h) snapTakes_row_tie rfl ⟨rfl,rfl⟩ (by kernel_rfl) rfl
  (fun f fn hf hfn=>by
    obtain rfl : f = 4 := Option.some.inj ((show Tryz.prog.funcNamed "pinnace/pinnacelaw18.SnapTakes" = some 4 by kernel_rfl).symm.trans hf) |>.symm
    obtain rfl:fn=Tryz.f4:=(Option.some.inj (Tryz.func4.symm.trans hfn)).symm
    exact ⟨by kernel_rfl,fun j t ht=>by
     rw [Tryz.params4] at ht
     have hm:t∈[59,55]:=by simpa using Array.mem_of_getElem? ht
     have hall:([59,55].all fun u=>!Tryz.prog.wantsStandIn u)=true:=by kernel_rfl
     exact (show Tryz.prog.wantsStandIn t=false by simpa using List.all_eq_true.1 hall t hm)⟩)
  (by kernel_rfl)
end Go.Proofs.YtogmdoiecpihdaaGreatDoor
