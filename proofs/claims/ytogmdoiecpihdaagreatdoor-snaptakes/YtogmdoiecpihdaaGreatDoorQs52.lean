/- Form, of the program and of the document. -/
import Derived.Test.YtogmdoiecpihdaaGreatDoorQs27
import Derived.Test.YtogmdoiecpihdaaGreatDoorQs51
import Derived.ProofKit
namespace Go.Proofs.YtogmdoiecpihdaaGreatDoor
open Go.RowKit
set_option linter.unusedVariables false
set_option maxHeartbeats 8000000
set_option maxRecDepth 100000
theorem form_any (w:World) (ht:Tab w) (ao:Option Addr) (n cap:Nat) (L:List EnE) (h:EntsAt w ao L) (hn:L.length=n) (hI:EIn L) (hz:esz L≤1000000) :
  Calls Tryz.prog 27 #[.slice ao n cap] w fun e w'=>e=.returned (.int .i64 ((fm 0 (evs L):Nat):Int))∧Fr Nobody w w':=by
 have hm:n≤1000000:=by unfold esz at hz;omega
 have HL:Hid (L.length=n∧EntsAt w ao L∧EIn L∧Tab w∧∀ x∈L,x.C.length≤1000000):=⟨hn,h,hI,ht,fun x hx=>by have:=csz_mem hx;unfold esz at hz;omega⟩
 clear hn h hI hz ht
 go_enter Tryz.func27,Tryz.ntmps27
 go_wp2
 go_loopw [8] (fun c wr=>∃ j:Nat,j≤n∧c=.int .i64 j∧fm (prvE (evs L) j) ((evs L).drop j)=fm 0 (evs L)∧Fr Nobody w wr) (fun c _=>n - (intOf c).toNat)
 case atStart=>exact ⟨0,Nat.zero_le _,rfl,rfl,Fr.refl _ _⟩
 case round =>
  obtain ⟨j,hj,rfl,hI,hf⟩:=hrel
  have HI:Hid (fm (prvE (evs L) j) ((evs L).drop j)=fm 0 (evs L)):=hI
  have HF:Hid (Fr Nobody w wr):=hf
  clear hI hf
  by_cases hlt:j < n
  ·obtain ⟨x,hx⟩:∃ x,L[j]? = some x:=⟨_,List.getElem?_eq_getElem (by rw [HL.out.1];exact hlt)⟩
   obtain ⟨g,o,hao,c0,c1,_⟩:=(HL.out.2.1.quiet HF.out).at hx
   have hmx:=List.mem_of_getElem? hx
   obtain ⟨hid,hkk⟩:=HL.out.2.2.1 x hmx
   have hlt':(j:Int) < (n:Int):=by omega
   have hX:=evs_at hx
   have HFW:Hid (Fr Nobody w (wr.alloc (.cells #[.int .u32 (x.id:Int),.slice x.ao x.C.length x.cap] 76))):=HF.out.alloc _
   obtain ⟨p,hp⟩:∃ p,prvE (evs L) j=p:=⟨_,rfl⟩
   obtain ⟨ls,hls⟩:∃ l,lst (-1) x.C=l:=⟨_,rfl⟩
   obtain ⟨uu,huu⟩:∃ u,un x.C=u:=⟨_,rfl⟩
   have HLS:Hid (∀ W,Fr Nobody w W→Calls Tryz.prog 74 #[.slice x.ao x.C.length x.cap] W fun e w'=>e=.returned (.int .i64 (ls:Int))∧Fr Nobody W w'):=fun W hW=>by
    rw [← hls];exact list_any W (HL.out.2.2.2.1.quiet hW) x.ao x.C.length x.cap x.C rfl ((HL.out.2.1.2 x hmx).quiet hW) hkk (HL.out.2.2.2.2 x hmx)
   have HUN:Hid (∀ W,Fr Nobody w W→Calls Tryz.prog 75 #[.slice x.ao x.C.length x.cap,.func (.func 76) #[] #[]] W fun e w'=>e=.returned (.bool uu)∧Fr Nobody W w'):=fun W hW=>by
    rw [← huu];exact hasUn_any W (HL.out.2.2.2.1.quiet hW) x.ao x.C.length x.cap x.C rfl ((HL.out.2.1.2 x hmx).quiet hW) hkk (by have:=HL.out.2.2.2.2 x hmx;omega)
   have HB4:Hid ((x.id / 1024 < 1∨x.id≤p)→fm 0 (evs L)=4):=fun hc=>by
    have e:=ent1_a (p:=p) (x:=(x.id,x.C)) hc
    rw [← hp] at e
    rw [fm_bad hX HI.out (by rw [e];decide),e]
   have HBL:Hid (¬ (x.id / 1024 < 1∨x.id≤p)→ls≠0→fm 0 (evs L)=ls):=fun hc h2=>by
    have e:=ent1_b (p:=p) (x:=(x.id,x.C)) hc (by rw [hls];exact h2)
    rw [← hp,hls] at e
    rw [fm_bad hX HI.out (by rw [e];exact h2),e]
   have HBU:Hid (¬ (x.id / 1024 < 1∨x.id≤p)→ls=0→uu=true→fm 0 (evs L)=4):=fun hc h2 h3=>by
    have e:=ent1_c (p:=p) (x:=(x.id,x.C)) hc (by rw [hls];exact h2) (by rw [huu];exact h3)
    rw [← hp] at e
    rw [fm_bad hX HI.out (by rw [e];decide),e]
   have HON:Hid (¬ (x.id / 1024 < 1∨x.id≤p)→ls=0→uu=false→fm (prvE (evs L) (j+1)) ((evs L).drop (j+1))=fm 0 (evs L)):=fun hc h2 h3=>by
    have e:=ent1_d (p:=p) (x:=(x.id,x.C)) hc (by rw [hls];exact h2) (by rw [huu];exact h3)
    rw [← hp] at e
    exact fm_on hX HI.out e
   have hl5:ls < 4294967296:=by rw [← hls];exact lst_small x.C
   have HPV:Hid (prvE (evs L) j=p):=hp
   obtain ⟨ok,hok⟩:∃ ok,decide (1≤x.id / 1024)=ok:=⟨_,rfl⟩
   have HID:Hid (∀ W,Calls Tryz.prog 73 #[.int .u32 (x.id:Int)] W fun e w'=>e=.returned (.bool ok)∧w'=W):=fun W=>by rw [← hok];exact isID_any x.id W hid
   have b0:∀ f:FrOf (wr.alloc (.cells #[.int .u32 (x.id:Int),.slice x.ao x.C.length x.cap] 76)),f.val.cell? ⟨wr.heap.size,0,none⟩=some (.int .u32 (x.id:Int)):=fun f=>(((Own.start wr).allocC _ _).quiet f.fr).cell 0
   have b1:∀ f:FrOf (wr.alloc (.cells #[.int .u32 (x.id:Int),.slice x.ao x.C.length x.cap] 76)),f.val.cell? ⟨wr.heap.size,1,none⟩=some (.slice x.ao x.C.length x.cap):=fun f=>(((Own.start wr).allocC _ _).quiet f.fr).cell 1
   by_cases hid1:1≤x.id / 1024
   ·have hokt:ok=true:=by rw [← hok];exact decide_eq_true hid1
    subst hokt
    rcases j with _ | i
    ·have hp0:p=0:=by rw [← hp];rfl
     have HC:Hid (¬ (x.id / 1024 < 1∨x.id≤p)):=by show ¬ _;omega
     simp only [Nat.zero_mul,Nat.add_zero] at c0 c1
     have hlt0:(0:Int) < (n:Int):=by omega
     subst hao
     clear hx hmx hkk hls huu hp hok hX hid1 hp0 hid HI HPV
     obtain ⟨xi,xa,xc,C⟩:=x
     simp only at c0 c1 HLS HUN HB4 HBL HBU HON HID b0 b1 HC HFW
     generalize C.length=cl at *
     go_wp2
     generalize hWg:wr.alloc (.cells #[.int .u32 (xi:Int),.slice xa cl xc] 76)=W1 at *
     generalize wr.heap.size=b at *
     clear hWg
     refine wp_region_fr (by kernel_rfl) (by kernel_rfl) ?_
     repeat (with_reducible refine wpQuiet_step (fun K hK=>?_)
             go_simp
             first
              | (refine hK _ ?_;clear hK K)
              | (apply Exists.intro
                 refine ⟨fun _=>?_,hK _ ?_⟩
                 (go_at_call 73;with_reducible refine Calls.fr_same (HID.out _))
                 clear hK K))
     refine wpQuiet_nil ?_
     rintro w' ⟨f,rfl⟩
     have HF2:Hid (Fr Nobody w f.val):=HFW.out.trans f.fr
     have HB2:Hid (∀ w',Fr Nobody f.val w'→w'.cell? ⟨b,0,none⟩=some (.int .u32 (xi:Int))∧w'.cell? ⟨b,1,none⟩=some (.slice xa cl xc)):=fun w' hf=>⟨b0 ⟨w',f.fr.trans hf⟩,b1 ⟨w',f.fr.trans hf⟩⟩
     have e1:=b1 f
     generalize f.val=W2 at *
     clear HID b0 b1
     go_wp2_with fail
     refine (HLS.out _ HF2.out).mono ?_
     rintro e W3 ⟨rfl,hf3⟩
     have HF3:Hid (Fr Nobody w W3):=HF2.out.trans hf3
     have e3:=(HB2.out W3 hf3).2
     clear hf3 e1 HB2 HF2 HLS
     by_cases hl0:ls=0
     ·subst hl0
      go_wp2_with fail
      refine (HUN.out _ HF3.out).mono ?_
      rintro e W4 ⟨rfl,hf4⟩
      have HF4:Hid (Fr Nobody w W4):=HF3.out.trans hf4
      clear hf4 e3 HF3 HUN
      cases uu
      ·have HN:Hid (fm (prvE (evs L) (0+1)) ((evs L).drop (0+1))=fm 0 (evs L)):=HON.out HC.out (by trivial) (by trivial)
       clear HON HBL HBU HB4
       go_wp2
       go_roundw
       case rel=>exact ⟨0+1,by omega,by go_num,HN.out,HF4.out⟩
       case measure=>simp [intOf];omega
      ·have HN:Hid (fm 0 (evs L)=4):=HBU.out HC.out (by trivial) (by trivial)
       clear HON HBL HBU HB4
       go_wp2
       go_ret
       exact ⟨by rw [HN.out];rfl,HF4.out⟩
     ·have HN:Hid (fm 0 (evs L)=ls):=HBL.out HC.out hl0
      have hl1:((ls:Int) != 0)=true:=by simpa using hl0
      clear HON HBL HBU HB4
      go_wp2
      go_ret
      exact ⟨by rw [HN.out];rfl,HF3.out⟩
    ·obtain ⟨y,hy⟩:∃ y,L[i]? = some y:=⟨_,List.getElem?_eq_getElem (by rw [HL.out.1];omega)⟩
     have hpy:p=y.id:=by rw [← hp];simp [prvE,evs_at hy]
     have d0:∀ f:FrOf (wr.alloc (.cells #[.int .u32 (x.id:Int),.slice x.ao x.C.length x.cap] 76)),f.val.cell? ⟨g,o+i*2,none⟩=some (.int .u32 (p:Int)):=fun f=>by
      obtain ⟨g',o',hg',h0,_,_⟩:=(HL.out.2.1.quiet (HFW.out.trans f.fr)).at hy
      rw [hao] at hg'
      cases hg'
      rw [hpy];exact h0
     have hyid:=(HL.out.2.2.1 y (List.mem_of_getElem? hy)).1
     rw [← hpy] at hyid
     have hwi:IntKind.i64.wrap (i:Int)=(i:Int):=by rw [IntKind.wrap_i64];omega
     have hin:(i:Int) < (n:Int):=by omega
     subst hao
     by_cases hle:x.id≤p
     ·have HC:Hid (x.id / 1024 < 1∨x.id≤p):=.inr hle
      have hle':(x.id:Int)≤(p:Int):=by omega
      clear hx hmx hkk hls huu hp hok hX hid1 hid HI HPV hy hpy hle
      obtain ⟨xi,xa,xc,C⟩:=x
      simp only at c0 c1 HLS HUN HB4 HBL HBU HON HID b0 b1 HC HFW d0 hle'
      generalize C.length=cl at *
      go_wp2
      generalize hWg:wr.alloc (.cells #[.int .u32 (xi:Int),.slice xa cl xc] 76)=W1 at *
      generalize wr.heap.size=b at *
      clear hWg
      refine wp_region_fr (by kernel_rfl) (by kernel_rfl) ?_
      repeat (with_reducible refine wpQuiet_step (fun K hK=>?_)
              go_simp
              first
               | (refine hK _ ?_;clear hK K)
               | (apply Exists.intro
                  refine ⟨fun _=>?_,hK _ ?_⟩
                  (go_at_call 73;with_reducible refine Calls.fr_same (HID.out _))
                  clear hK K))
      refine wpQuiet_nil ?_
      rintro w' ⟨f,rfl⟩
      have HF2:Hid (Fr Nobody w f.val):=HFW.out.trans f.fr
      have HB2:Hid (∀ w',Fr Nobody f.val w'→w'.cell? ⟨b,0,none⟩=some (.int .u32 (xi:Int))∧w'.cell? ⟨b,1,none⟩=some (.slice xa cl xc)):=fun w' hf=>⟨b0 ⟨w',f.fr.trans hf⟩,b1 ⟨w',f.fr.trans hf⟩⟩
      have e1:=b1 f
      generalize f.val=W2 at *
      clear HID b0 b1
      clear d0
      have HN:Hid (fm 0 (evs L)=4):=HB4.out HC.out
      clear HON HBL HBU HB4 HLS HUN
      go_wp2
      go_ret
      exact ⟨by rw [HN.out];rfl,HF2.out⟩
     ·have HC:Hid (¬ (x.id / 1024 < 1∨x.id≤p)):=by show ¬ _;omega
      have hle':¬ (x.id:Int)≤(p:Int):=by omega
      clear hx hmx hkk hls huu hp hok hX hid1 hid HI HPV hy hpy hle
      obtain ⟨xi,xa,xc,C⟩:=x
      simp only at c0 c1 HLS HUN HB4 HBL HBU HON HID b0 b1 HC HFW d0 hle'
      generalize C.length=cl at *
      go_wp2
      generalize hWg:wr.alloc (.cells #[.int .u32 (xi:Int),.slice xa cl xc] 76)=W1 at *
      generalize wr.heap.size=b at *
      clear hWg
      refine wp_region_fr (by kernel_rfl) (by kernel_rfl) ?_
      repeat (with_reducible refine wpQuiet_step (fun K hK=>?_)
              go_simp
              first
               | (refine hK _ ?_;clear hK K)
               | (apply Exists.intro
                  refine ⟨fun _=>?_,hK _ ?_⟩
                  (go_at_call 73;with_reducible refine Calls.fr_same (HID.out _))
                  clear hK K))
      refine wpQuiet_nil ?_
      rintro w' ⟨f,rfl⟩
      have HF2:Hid (Fr Nobody w f.val):=HFW.out.trans f.fr
      have HB2:Hid (∀ w',Fr Nobody f.val w'→w'.cell? ⟨b,0,none⟩=some (.int .u32 (xi:Int))∧w'.cell? ⟨b,1,none⟩=some (.slice xa cl xc)):=fun w' hf=>⟨b0 ⟨w',f.fr.trans hf⟩,b1 ⟨w',f.fr.trans hf⟩⟩
      have e1:=b1 f
      generalize f.val=W2 at *
      clear HID b0 b1
      clear d0
      go_wp2_with fail
      refine (HLS.out _ HF2.out).mono ?_
      rintro e W3 ⟨rfl,hf3⟩
      have HF3:Hid (Fr Nobody w W3):=HF2.out.trans hf3
      have e3:=(HB2.out W3 hf3).2
      clear hf3 e1 HB2 HF2 HLS
      by_cases hl0:ls=0
      ·subst hl0
       go_wp2_with fail
       refine (HUN.out _ HF3.out).mono ?_
       rintro e W4 ⟨rfl,hf4⟩
       have HF4:Hid (Fr Nobody w W4):=HF3.out.trans hf4
       clear hf4 e3 HF3 HUN
       cases uu
       ·have HN:Hid (fm (prvE (evs L) ((i+1)+1)) ((evs L).drop ((i+1)+1))=fm 0 (evs L)):=HON.out HC.out (by trivial) (by trivial)
        clear HON HBL HBU HB4
        go_wp2
        go_roundw
        case rel=>exact ⟨(i+1)+1,by omega,by go_num,HN.out,HF4.out⟩
        case measure=>simp [intOf];omega
       ·have HN:Hid (fm 0 (evs L)=4):=HBU.out HC.out (by trivial) (by trivial)
        clear HON HBL HBU HB4
        go_wp2
        go_ret
        exact ⟨by rw [HN.out];rfl,HF4.out⟩
      ·have HN:Hid (fm 0 (evs L)=ls):=HBL.out HC.out hl0
       have hl1:((ls:Int) != 0)=true:=by simpa using hl0
       clear HON HBL HBU HB4
       go_wp2
       go_ret
       exact ⟨by rw [HN.out];rfl,HF3.out⟩
   ·have hokt:ok=false:=by rw [← hok];exact decide_eq_false hid1
    have HC:Hid (x.id / 1024 < 1∨x.id≤p):=.inl (by omega)
    subst hokt hao
    clear hx hmx hkk hls huu hp hok hX hid1 hid HI HPV
    obtain ⟨xi,xa,xc,C⟩:=x
    simp only at c0 c1 HLS HUN HB4 HBL HBU HON HID b0 b1 HC HFW
    generalize C.length=cl at *
    go_wp2
    generalize hWg:wr.alloc (.cells #[.int .u32 (xi:Int),.slice xa cl xc] 76)=W1 at *
    generalize wr.heap.size=b at *
    clear hWg
    refine wp_region_fr (by kernel_rfl) (by kernel_rfl) ?_
    repeat (with_reducible refine wpQuiet_step (fun K hK=>?_)
            go_simp
            first
             | (refine hK _ ?_;clear hK K)
             | (apply Exists.intro
                refine ⟨fun _=>?_,hK _ ?_⟩
                (go_at_call 73;with_reducible refine Calls.fr_same (HID.out _))
                clear hK K))
    refine wpQuiet_nil ?_
    rintro w' ⟨f,rfl⟩
    have HF2:Hid (Fr Nobody w f.val):=HFW.out.trans f.fr
    have HB2:Hid (∀ w',Fr Nobody f.val w'→w'.cell? ⟨b,0,none⟩=some (.int .u32 (xi:Int))∧w'.cell? ⟨b,1,none⟩=some (.slice xa cl xc)):=fun w' hf=>⟨b0 ⟨w',f.fr.trans hf⟩,b1 ⟨w',f.fr.trans hf⟩⟩
    have e1:=b1 f
    generalize f.val=W2 at *
    clear HID b0 b1
    have HN:Hid (fm 0 (evs L)=4):=HB4.out HC.out
    clear HON HBL HBU HB4 HLS HUN
    go_wp2
    go_ret
    exact ⟨by rw [HN.out];rfl,HF2.out⟩
  ·have hlt':¬ (j:Int) < (n:Int):=by omega
   have HN:Hid (fm 0 (evs L)=0):=fm_end HI.out (by rw [evs_len,HL.out.1];omega)
   go_wp2
   go_ret
   exact ⟨by rw [HN.out];rfl,HF.out⟩
end Go.Proofs.YtogmdoiecpihdaaGreatDoor
namespace Go.Proofs.YtogmdoiecpihdaaGreatDoor
open Go.RowKit Go.Maps
set_option linter.unusedVariables false
set_option maxHeartbeats 8000000
set_option maxRecDepth 100000
def IsRow (k:IntKind) (w:World) (a:Option Addr) (len cap:Nat) (zs:List Int):Prop :=
 (a=none∧len=0∧cap=0∧zs=[]) ∨
 ∃ x,a=some x∧len≤cap∧cap≤maxLen∧zs.length=cap∧(∀ i,i < zs.length→w.cell? (x.add i)=some (.int k (zs.getD i 0)))∧∀ n∈zs,(Lit.int k n).wf=true
def Ints (k:IntKind) (w:World) (ao:Option Addr) (P:List Int):Prop :=
 P=[]∨∃ g o,ao=some ⟨g,o,none⟩∧∀ j x,P[j]? = some x→w.cell? ⟨g,o+j,none⟩=some (.int k x)
theorem Ints.quiet {k:IntKind} {w w':World} {ao:Option Addr} {P:List Int} (h:Ints k w ao P) (hf:Fr Nobody w w'):Ints k w' ao P:=by
 rcases h with h | ⟨g,o,ha,hc⟩
 ·exact .inl h
 ·refine .inr ⟨g,o,ha,fun j x hx=>?_⟩
  have h1:=hc j x hx
  exact (hf.cell (p:=⟨g,o+j,none⟩) (World.block_lt_of_cell? w _ h1) id).trans h1
theorem IsRow.ints {k:IntKind} {w:World} {a:Option Addr} {len cap:Nat} {zs:List Int} (h:IsRow k w a len cap zs):(zs.take len).length=len∧len≤maxLen∧Ints k w a (zs.take len)∧∀ n∈zs.take len,(Lit.int k n).wf=true:=by
 rcases h with ⟨rfl,rfl,rfl,rfl⟩ | ⟨x,rfl,hl,hm,hz,hc,hw⟩
 ·exact ⟨rfl,Nat.zero_le _,.inl rfl,fun n hn=>by simp at hn⟩
 ·refine ⟨by rw [List.length_take];omega,by omega,?_,fun n hn=>hw n (List.mem_of_mem_take hn)⟩
  by_cases h0:len=0
  ·subst h0;left;simp
  ·right
   obtain ⟨g,o,spot⟩:=x
   have h1:=hc 0 (by omega)
   have hs:spot=none:=by simpa [Addr.add] using World.cell?_spot h1
   subst hs
   refine ⟨g,o,rfl,fun j y hy=>?_⟩
   rw [List.getElem?_take] at hy
   split at hy
   ·rename_i hj
    have h2:=hc j (by omega)
    rw [addr_add] at h2
    rw [h2]
    rw [List.getD_eq_getElem?_getD,hy];rfl
   ·cases hy
theorem u32_rngS {n:Int} (h:(Lit.int .u32 n).wf=true):∃ k:Nat,n=k∧k < 4294967296:=by
 have:0≤n∧n≤4294967295:=by simpa [Lit.wf,IntKind.min,IntKind.max,IntKind.signed,IntKind.bits] using h
 exact ⟨n.toNat,by omega,by omega⟩
theorem ids_in {w:World} {ia:Option Addr} {il ic:Nat} {zs:List Int} (h:IsRow .u32 w ia il ic zs) (m:Nat) (hm:m≤il):∃ ids:List Nat,ids.length=m∧(∀ id∈ids,id < 4294967296)∧∀ w',Fr Nobody w w'→Nums .u32 w' (.slice ia ids.length ic) ids:=by
 obtain ⟨h1,h2,h3,h4⟩:=h.ints
 refine ⟨((zs.take il).take m).map Int.toNat,by rw [List.length_map,List.length_take];omega,?_,fun w' hf=>?_⟩
 ·intro id hid
  obtain ⟨z,hz,rfl⟩:=List.mem_map.1 hid
  obtain ⟨k,rfl,hk⟩:=u32_rngS (h4 z (List.mem_of_mem_take hz))
  simpa using hk
 ·refine ⟨ia,ic,rfl,?_⟩
  rcases h3.quiet hf with h5 | ⟨g,o,ha,hc⟩
  ·left;rw [h5];simp
  ·right
   refine ⟨g,o,ha,fun j x hx=>?_⟩
   rw [List.getElem?_map] at hx
   cases hz:((zs.take il).take m)[j]? with
   | none=>rw [hz] at hx;simp at hx
   | some z =>
    rw [hz] at hx
    simp only [Option.map_some,Option.some.injEq] at hx
    have hz2:(zs.take il)[j]? = some z:=by
     rw [List.getElem?_take] at hz
     split at hz
     ·exact hz
     ·cases hz
    obtain ⟨k,rfl,_⟩:=u32_rngS (h4 z (List.mem_of_getElem? hz2))
    rw [hc j _ hz2]
    have:k=x:=by simpa using hx
    rw [this]
theorem copy_ids {w0 w:World} {l:List Thing} {ops:Array Oper} {rest:List Oper} {o:Oper} {a:Act} {Q:Exit→Act→World→Prop} (hgd:o.guard=none) (s x:Operand)
  (ho:o.op=.call { callee:=.builtin .append,args:=#[s,x],argTypes:=#[55,55] }) (ao:Option Addr) (m cap:Nat) (P:List Nat) (h:Own w0 w l) (hS:Nums .u32 w (.slice ao m cap) P) (hm:P.length=m) (hL:m≤1000000) (hnn:ao=none→cap=0)
  (k:Nat) (hk:k=w.heap.size) (hs:a.eval s=.slice (some ⟨k,0,none⟩) 0 0) (hx:a.eval x=.slice ao m cap)
  (hK:∀ ao' cap' w',Own w0 w' (Row 38 1 (.slice ao' m cap') m (irow .u32 P)::l)→wpList Tryz.prog ops Q rest (a.put o.dst (.slice ao' m cap')) w') :
  wpList Tryz.prog ops Q (o::rest) a (w.alloc (.cells #[] 38)):=by
 obtain ⟨i0,hi,hz0,hz1,hz2⟩:=info_parts Tryz.infoIDh
 subst hk
 have hO:=h.litRow #[] 38 1 0 (by decide) rfl
 have hS2:=hS.quiet ((Fr.refl Nobody w).alloc (.cells #[] 38))
 subst hm
 obtain ⟨a2,c2,he,hS2⟩:=hS2
 obtain ⟨rfl,_,rfl⟩:=Value.slice.inj he
 rcases Nat.eq_zero_or_pos P.length with h0 | h0
 ·have hP0:P=[]:=List.eq_nil_of_length_eq_zero h0
  subst hP0
  refine wpList_plain hgd fun K hK'=>?_
  cases ao with
  | none =>
   have hc0:=hnn rfl
   subst hc0
   have hr:=run_append_owned_none (P:=Tryz.prog) (w.alloc (.cells #[] 38)) 0 55 o.type 38 i0 1 Tryz.underlying55 hi _ 0 [] hO.row
   simp only [List.length_nil] at hx
   unfold Oper.wp
   simp [execOp,ho,resolve,invoke,builtin,hs,hx,hr,Result.andThen]
   exact hK' _ _ (hK _ _ _ hO)
  | some a' =>
   have hr:=run_append_empty (P:=Tryz.prog) (w.alloc (.cells #[] 38)) 0 55 o.type 38 i0 1 Tryz.underlying55 hi _ 0 [] hO.row (some a') cap
   simp only [List.length_nil] at hx
   unfold Oper.wp
   simp [execOp,ho,resolve,invoke,builtin,hs,hx,hr,Result.andThen]
   exact hK' _ _ (hK _ _ _ hO)
 ·rcases hS2 with h1 | ⟨g,o',ha,hc⟩
  ·rw [h1] at h0;simp at h0
  ·subst ha
   refine append_own hgd s x 55 ho 38 i0 (.int .u32 0) 1 4 Tryz.underlying55 hi hz0 hz1 hz2 rfl (by decide) _ 0 [] hs hO ⟨g,o',none⟩ P.length cap (irow .u32 P) hx (by rw [length_irow];omega) (fun j u hu=>?_) (one_irow _ P) h0 (by unfold maxLen;omega) (by omega) ?_
   ·rw [getElem?_irow] at hu
    cases hp:P[j]? with
    | none=>rw [hp] at hu;simp at hu
    | some p =>
     rw [hp] at hu
     simp only [Option.map_some,Option.some.injEq] at hu
     rw [addr_add,hc j p hp,hu]
   intro g' cap' w' hO' _
   simp only [Nat.zero_add,List.nil_append] at hO' ⊢
   exact hK _ _ _ hO'
theorem lst_filterS {C:List Cp} (h:lst (-1) C=0) (p:Cp→Bool):lst (-1) (C.filter p)=0:=by
 have h1:=lst_ok h
 exact lst_mk (h1.1.filter p) fun q hq=>h1.2 q (List.mem_filter.1 hq).1
theorem list_gen {σ:Sto} (hσ:σ.Ok) {id:Nat} (h:id∈σ.S.list):1≤id / 1024:=by
 have h1:=(St.list_w hσ.s h).1
 exact (hσ.s.id _ _ ((St.isLive_iff hσ.s id).1 h1).2).2.1
theorem ent1_told {σ:Sto} (hσ:σ.Ok) {p id:Nat} (h:id∈σ.S.list) (hp:p < id):ent1 p (id,toldL (σ.cps id))=0:=by
 have hl:lst (-1) (σ.cps id)=0:=by
  obtain ⟨r,C,hr,he,hC,_⟩:=hσ.ent (St.list_w hσ.s h).1
  rw [Sto.cps_of hr he];exact hC
 have hg:=list_gen hσ h
 unfold ent1
 simp only
 rw [if_neg (by omega),if_neg (by rw [show toldL (σ.cps id)=(σ.cps id).filter (fun c=>ktold c.k) from rfl,lst_filterS hl];simp),if_neg]
 rw [Bool.not_eq_true]
 unfold un toldL
 rw [List.any_eq_false]
 intro c hc
 have:=(List.mem_filter.1 hc).2
 simp [this]
theorem fm_tks {σ:Sto} (hσ:σ.Ok):∀ (ids:List Nat) (p:Nat),(∀ id∈ids,id∈σ.S.list)→ids.Pairwise (fun a b=>a < b)→(∀ id∈ids,p < id)→fm p (tks σ ids)=0
 | [],_,_,_,_=>rfl
 | x::t,p,h,hr,hp=>by
  obtain ⟨h1,h2⟩:=List.pairwise_cons.1 hr
  show fm p ((x,toldL (σ.cps x))::tks σ t)=0
  rw [fm,if_neg (by rw [ent1_told hσ (h x List.mem_cons_self) (hp x List.mem_cons_self)];simp)]
  exact fm_tks hσ t x (fun id hid=>h id (List.mem_cons_of_mem _ hid)) h2 h1
theorem ris_pw:∀ (L:List Nat),risB L=true→L.Pairwise (fun a b=>a < b)
 | [],_=>List.Pairwise.nil
 | [x],_=>List.pairwise_singleton _ _
 | x::y::t,h=>by
  rw [risB,Bool.and_eq_true] at h
  have h1:=of_decide_eq_true h.1
  have h2:=ris_pw (y::t) h.2
  refine List.pairwise_cons.2 ⟨fun z hz=>?_,h2⟩
  rcases List.mem_cons.1 hz with rfl | hz
  ·exact h1
  ·have:=(List.pairwise_cons.1 h2).1 z hz
   omega
theorem fm_take {σ:Sto} (hσ:σ.Ok) {ids:List Nat} (h:tcode σ ids=0):fm 0 (tval σ ids)=0:=by
 unfold tval
 rw [if_pos h]
 unfold tcode at h
 split at h
 ·cases h
 ·rename_i hr
  split at h
  ·cases h
  ·rename_i ha
   have ha2:=List.all_eq_true.1 ((Bool.not_eq_false _).mp ha)
   have hin:∀ id∈ids,id∈σ.S.list:=fun id hid=>of_decide_eq_true (ha2 id hid)
   refine fm_tks hσ ids 0 hin (ris_pw ids (by simpa using hr)) (fun id hid=>?_)
   have:=list_gen hσ (hin id hid)
   omega
theorem pick_memS {l:List Nat} {m:List Bool} {i x:Nat} (h1:l[i]? = some x) (h2:m[i]? = some true):x∈pick l m:=by
 induction l generalizing m i with
 | nil=>simp at h1
 | cons a t ih =>
  cases m with
  | nil=>simp at h2
  | cons b m =>
   cases i with
   | zero =>
    simp at h1 h2
    subst h1;subst h2
    simp [pick]
   | succ i =>
    have:=ih (m:=m) (i:=i) (by simpa using h1) (by simpa using h2)
    cases b <;> simp [pick,this]
theorem live_in {σ:Sto} (hσ:σ.Ok) {id:Nat}:id∈σ.S.list ↔ σ.S.isLive id=true:=by
 constructor
 ·exact fun h=>(St.list_w hσ.s h).1
 ·intro h
  obtain ⟨h1,h2⟩:=(St.isLive_iff hσ.s id).1 h
  exact pick_memS h2 h1
theorem take_any (w0 w:World) (ht:Tab w0) (l:List Thing) (b K n:Nat) (x:Wd) (hσ:x.σ.Ok) (hK:K≤1000000) (ia:Option Addr) (ic:Nat) (ids:List Nat) (hN:∀ w',Own w0 w' l→Nums .u32 w' (.slice ia ids.length ic) ids) (hX:ids.length≤1000000) (h32:∀ id∈ids,id < 4294967296) (h:Own w0 w (WdT b x K n::l)) :
  Calls Tryz.prog 24 #[.pointer (some ⟨b,0,none⟩),.slice ia ids.length ic] w fun e w'=>∃ (ao:Option Addr) (cap:Nat) (M:List EnE),e=.returned (.tuple #[.slice ao M.length cap,.int .i64 ((tcode x.σ ids:Nat):Int)])∧evs M=tval x.σ ids∧Own w0 w' (EntsT ao cap M::WdT b x K n::l):=by
 cases hr:risB ids with
 | false =>
  have hc:tcode x.σ ids=4:=by unfold tcode;rw [if_pos hr]
  refine (take_fall w0 w _ h _ _ ids (hN w h.tail) hX hr).mono ?_
  rintro e w' ⟨rfl,hO⟩
  refine ⟨none,0,[],by rw [hc];rfl,?_,Own.ents (hO.nilRow _ _)⟩
  unfold tval
  rw [hc];rfl
 | true =>
  cases hall:ids.all (fun id=>decide (id∈x.σ.S.list)) with
  | false =>
   have hc:tcode x.σ ids=7:=by unfold tcode;rw [if_neg (by rw [hr];decide),if_pos hall]
   have hex:∃ i:Nat,∃ z,ids[i]? = some z∧x.σ.S.isLive z=false:=by
    have h1:∃ z∈ids,z ∉ x.σ.S.list:=by
     refine Classical.byContradiction (fun hno=>?_)
     have:ids.all (fun id=>decide (id∈x.σ.S.list))=true:=List.all_eq_true.2 (fun id hid=>decide_eq_true (Classical.byContradiction (fun hn=>hno ⟨id,hid,hn⟩)))
     rw [this] at hall;cases hall
    obtain ⟨z,hz,hzn⟩:=h1
    obtain ⟨i,hi⟩:=List.getElem?_of_mem hz
    refine ⟨i,z,hi,?_⟩
    rw [live_in hσ] at hzn
    simpa using hzn
   obtain ⟨d,hd,hmin⟩:∃ d:Nat,(∃ z,ids[d]? = some z∧x.σ.S.isLive z=false)∧∀ i:Nat,i < d→¬ ∃ z,ids[i]? = some z∧x.σ.S.isLive z=false:=by
    obtain ⟨i,hi⟩:=hex
    induction i using Nat.strongRecOn with
    | _ i ih =>
     by_cases hm:∃ k,k < i∧∃ z,ids[k]? = some z∧x.σ.S.isLive z=false
     ·obtain ⟨k,hk,hz⟩:=hm
      exact ih k hk hz
     ·exact ⟨i,hi,fun k hk hz=>hm ⟨k,hk,hz⟩⟩
   obtain ⟨z,hd,hz⟩:=hd
   refine (take_dead w0 w ht l b K n x hσ hK ia ic ids hN hX hr h32 d z hd hz (fun i id hi hid=>?_) h).mono ?_
   ·cases hlv:x.σ.S.isLive id with
    | true=>rfl
    | false=>exact absurd ⟨id,hid,hlv⟩ (hmin i hi)
   ·rintro e w' ⟨rfl,hO⟩
    refine ⟨none,0,[],by rw [hc];rfl,?_,Own.ents (hO.nilRow _ _)⟩
    unfold tval
    rw [hc];rfl
  | true =>
   have hc:tcode x.σ ids=0:=by unfold tcode;rw [if_neg (by rw [hr];decide),if_neg (by rw [hall];decide)]
   have ha2:=List.all_eq_true.1 hall
   refine (take_live w0 w ht l b K n x hσ hK ia ic ids hN hX hr (fun id hid=>⟨(live_in hσ).1 (of_decide_eq_true (ha2 id hid)),h32 id hid⟩) h).mono ?_
   rintro e w' ⟨ao,cap,rfl,M,hM,hMv,hO⟩
   refine ⟨ao,cap,M,by rw [hc,hM];rfl,?_,hO⟩
   unfold tval
   rw [if_pos hc];exact hMv
theorem snapTake_nil (w:World):Calls Tryz.prog 24 #[.pointer none,.slice none 0 0] w fun e w'=>e=.returned (.tuple #[.slice none 0 0,.int .i64 0])∧Fr Nobody w w':=by
 have HR:Hid (Calls _ _ _ _ _):=rising_any w (.slice none 0 0) [] ⟨none,0,rfl,.inl rfl⟩ (by decide)
 go_enter Tryz.func24,Tryz.ntmps24
 go_wp2_with fail
 refine HR.out.mono ?_
 rintro e w1 ⟨rfl,hf⟩
 have HF:Hid (Fr Nobody w w1):=hf
 clear hf HR
 go_wp2
 go_loopw [6,16] (fun v6 v16 wr=>v6=.slice none 0 0∧v16=.int .i64 0∧Fr Nobody w wr) (fun _ _ _=>0)
 case atStart=>exact ⟨rfl,rfl,HF.out⟩
 case round =>
  obtain ⟨rfl,rfl,hf⟩:=hrel
  have HF2:Hid (Fr Nobody w wr):=hf
  clear hf
  go_wp2
  go_ret2
  exact ⟨rfl,HF2.out⟩
end Go.Proofs.YtogmdoiecpihdaaGreatDoor
