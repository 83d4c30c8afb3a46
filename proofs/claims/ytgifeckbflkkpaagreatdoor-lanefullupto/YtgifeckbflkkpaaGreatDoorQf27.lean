/- Form, of the program and of the document. -/
import Derived.Test.YtgifeckbflkkpaaGreatDoorQf26
namespace Go.Proofs.YtgifeckbflkkpaaGreatDoor
open Go.RowKit
set_option linter.unusedVariables false
set_option maxHeartbeats 8000000
set_option maxRecDepth 100000
theorem form_any (w : World) (ht : Tab w) (ao : Option Addr) (n cap : Nat) (L : List EnE) (h : EntsAt w ao L) (hn : L.length = n) (hI : EIn L) (hz : esz L ≤ 1000000) :
  Calls Tryz.prog 60 #[.slice ao n cap] w fun e w' => e = .returned (.int .i64 ((fm 0 (evs L) : Nat) : Int)) ∧ Fr Nobody w w' := by
 have hm : n ≤ 1000000 := by unfold esz at hz; omega
 have HL : Hid (L.length = n ∧ EntsAt w ao L ∧ EIn L ∧ Tab w ∧ ∀ x ∈ L,x.C.length ≤ 1000000) := ⟨hn,h,hI,ht,fun x hx => by have := csz_mem hx; unfold esz at hz; omega⟩
 clear hn h hI hz ht
 go_enter Tryz.func60,Tryz.ntmps60
 go_wp2
 go_loopw [8] (fun c wr => ∃ j : Nat,j ≤ n ∧ c = .int .i64 j ∧ fm (prvE (evs L) j) ((evs L).drop j) = fm 0 (evs L) ∧ Fr Nobody w wr) (fun c _ => n - (intOf c).toNat)
 case atStart => exact ⟨0,Nat.zero_le _,rfl,rfl,Fr.refl _ _⟩
 case round =>
  obtain ⟨j,hj,rfl,hI,hf⟩ := hrel
  have HI : Hid (fm (prvE (evs L) j) ((evs L).drop j) = fm 0 (evs L)) := hI
  have HF : Hid (Fr Nobody w wr) := hf
  clear hI hf
  by_cases hlt : j < n
  ·obtain ⟨x,hx⟩ : ∃ x,L[j]? = some x := ⟨_,List.getElem?_eq_getElem (by rw [HL.out.1]; exact hlt)⟩
   obtain ⟨g,o,hao,c0,c1,_⟩ := (HL.out.2.1.quiet HF.out).at hx
   have hmx := List.mem_of_getElem? hx
   obtain ⟨hid,hkk⟩ := HL.out.2.2.1 x hmx
   have hlt' : (j : Int) < (n : Int) := by omega
   have hX := evs_at hx
   have HFW : Hid (Fr Nobody w (wr.alloc (.cells #[.int .u32 (x.id : Int),.slice x.ao x.C.length x.cap] 60))) := HF.out.alloc _
   obtain ⟨p,hp⟩ : ∃ p,prvE (evs L) j = p := ⟨_,rfl⟩
   obtain ⟨ls,hls⟩ : ∃ l,lst (-1) x.C = l := ⟨_,rfl⟩
   obtain ⟨uu,huu⟩ : ∃ u,un x.C = u := ⟨_,rfl⟩
   have HLS : Hid (∀ W,Fr Nobody w W → Calls Tryz.prog 117 #[.slice x.ao x.C.length x.cap] W fun e w' => e = .returned (.int .i64 (ls : Int)) ∧ Fr Nobody W w') := fun W hW => by
    rw [← hls]; exact list_any W (HL.out.2.2.2.1.quiet hW) x.ao x.C.length x.cap x.C rfl ((HL.out.2.1.2 x hmx).quiet hW) hkk (HL.out.2.2.2.2 x hmx)
   have HUN : Hid (∀ W,Fr Nobody w W → Calls Tryz.prog 118 #[.slice x.ao x.C.length x.cap,.func (.func 119) #[] #[]] W fun e w' => e = .returned (.bool uu) ∧ Fr Nobody W w') := fun W hW => by
    rw [← huu]; exact hasUn_any W (HL.out.2.2.2.1.quiet hW) x.ao x.C.length x.cap x.C rfl ((HL.out.2.1.2 x hmx).quiet hW) hkk (by have := HL.out.2.2.2.2 x hmx; omega)
   have HB4 : Hid ((x.id / 1024 < 1 ∨ x.id ≤ p) → fm 0 (evs L) = 4) := fun hc => by
    have e := ent1_a (p := p) (x := (x.id,x.C)) hc
    rw [← hp] at e
    rw [fm_bad hX HI.out (by rw [e]; decide),e]
   have HBL : Hid (¬ (x.id / 1024 < 1 ∨ x.id ≤ p) → ls ≠ 0 → fm 0 (evs L) = ls) := fun hc h2 => by
    have e := ent1_b (p := p) (x := (x.id,x.C)) hc (by rw [hls]; exact h2)
    rw [← hp,hls] at e
    rw [fm_bad hX HI.out (by rw [e]; exact h2),e]
   have HBU : Hid (¬ (x.id / 1024 < 1 ∨ x.id ≤ p) → ls = 0 → uu = true → fm 0 (evs L) = 4) := fun hc h2 h3 => by
    have e := ent1_c (p := p) (x := (x.id,x.C)) hc (by rw [hls]; exact h2) (by rw [huu]; exact h3)
    rw [← hp] at e
    rw [fm_bad hX HI.out (by rw [e]; decide),e]
   have HON : Hid (¬ (x.id / 1024 < 1 ∨ x.id ≤ p) → ls = 0 → uu = false → fm (prvE (evs L) (j + 1)) ((evs L).drop (j + 1)) = fm 0 (evs L)) := fun hc h2 h3 => by
    have e := ent1_d (p := p) (x := (x.id,x.C)) hc (by rw [hls]; exact h2) (by rw [huu]; exact h3)
    rw [← hp] at e
    exact fm_on hX HI.out e
   have hl5 : ls < 4294967296 := by rw [← hls]; exact lst_small x.C
   have HPV : Hid (prvE (evs L) j = p) := hp
   obtain ⟨ok,hok⟩ : ∃ ok,decide (1 ≤ x.id / 1024) = ok := ⟨_,rfl⟩
   have HID : Hid (∀ W,Calls Tryz.prog 116 #[.int .u32 (x.id : Int)] W fun e w' => e = .returned (.bool ok) ∧ w' = W) := fun W => by rw [← hok]; exact isID_any x.id W hid
   have b0 : ∀ f : FrOf (wr.alloc (.cells #[.int .u32 (x.id : Int),.slice x.ao x.C.length x.cap] 60)),f.val.cell? ⟨wr.heap.size,0,none⟩ = some (.int .u32 (x.id : Int)) := fun f => (((Own.start wr).allocC _ _).quiet f.fr).cell 0
   have b1 : ∀ f : FrOf (wr.alloc (.cells #[.int .u32 (x.id : Int),.slice x.ao x.C.length x.cap] 60)),f.val.cell? ⟨wr.heap.size,1,none⟩ = some (.slice x.ao x.C.length x.cap) := fun f => (((Own.start wr).allocC _ _).quiet f.fr).cell 1
   by_cases hid1 : 1 ≤ x.id / 1024
   ·have hokt : ok = true := by rw [← hok]; exact decide_eq_true hid1
    subst hokt
    rcases j with _ | i
    ·have hp0 : p = 0 := by rw [← hp]; rfl
     have HC : Hid (¬ (x.id / 1024 < 1 ∨ x.id ≤ p)) := by show ¬ _; omega
     simp only [Nat.zero_mul,Nat.add_zero] at c0 c1
     have hlt0 : (0 : Int) < (n : Int) := by omega
     subst hao
     clear hx hmx hkk hls huu hp hok hX hid1 hp0 hid HI HPV
     obtain ⟨xi,xa,xc,C⟩ := x
     simp only at c0 c1 HLS HUN HB4 HBL HBU HON HID b0 b1 HC HFW
     generalize C.length = cl at *
     go_wp2
     generalize hWg : wr.alloc (.cells #[.int .u32 (xi : Int),.slice xa cl xc] 60) = W1 at *
     generalize wr.heap.size = b at *
     clear hWg
     refine wp_region_fr (by kernel_rfl) (by kernel_rfl) ?_
     repeat (with_reducible refine wpQuiet_step (fun K hK => ?_)
             go_simp
             first
              | (refine hK _ ?_; clear hK K)
              | (apply Exists.intro
                 refine ⟨fun _ => ?_,hK _ ?_⟩
                 (go_at_call 116; with_reducible refine Calls.fr_same (HID.out _))
                 clear hK K))
     refine wpQuiet_nil ?_
     rintro w' ⟨f,rfl⟩
     have HF2 : Hid (Fr Nobody w f.val) := HFW.out.trans f.fr
     have HB2 : Hid (∀ w',Fr Nobody f.val w' → w'.cell? ⟨b,0,none⟩ = some (.int .u32 (xi : Int)) ∧ w'.cell? ⟨b,1,none⟩ = some (.slice xa cl xc)) := fun w' hf => ⟨b0 ⟨w',f.fr.trans hf⟩,b1 ⟨w',f.fr.trans hf⟩⟩
     have e1 := b1 f
     generalize f.val = W2 at *
     clear HID b0 b1
     go_wp2_with fail
     refine (HLS.out _ HF2.out).mono ?_
     rintro e W3 ⟨rfl,hf3⟩
     have HF3 : Hid (Fr Nobody w W3) := HF2.out.trans hf3
     have e3 := (HB2.out W3 hf3).2
     clear hf3 e1 HB2 HF2 HLS
     by_cases hl0 : ls = 0
     ·subst hl0
      go_wp2_with fail
      refine (HUN.out _ HF3.out).mono ?_
      rintro e W4 ⟨rfl,hf4⟩
      have HF4 : Hid (Fr Nobody w W4) := HF3.out.trans hf4
      clear hf4 e3 HF3 HUN
      cases uu
      ·have HN : Hid (fm (prvE (evs L) (0 + 1)) ((evs L).drop (0 + 1)) = fm 0 (evs L)) := HON.out HC.out (by trivial) (by trivial)
       clear HON HBL HBU HB4
       go_wp2
       go_roundw
       case rel => exact ⟨0 + 1,by omega,by go_num,HN.out,HF4.out⟩
       case measure => simp [intOf]; omega
      ·have HN : Hid (fm 0 (evs L) = 4) := HBU.out HC.out (by trivial) (by trivial)
       clear HON HBL HBU HB4
       go_wp2
       go_ret
       exact ⟨by rw [HN.out]; rfl,HF4.out⟩
     ·have HN : Hid (fm 0 (evs L) = ls) := HBL.out HC.out hl0
      have hl1 : ((ls : Int) != 0) = true := by simpa using hl0
      clear HON HBL HBU HB4
      go_wp2
      go_ret
      exact ⟨by rw [HN.out]; rfl,HF3.out⟩
    ·obtain ⟨y,hy⟩ : ∃ y,L[i]? = some y := ⟨_,List.getElem?_eq_getElem (by rw [HL.out.1]; omega)⟩
     have hpy : p = y.id := by rw [← hp]; simp [prvE,evs_at hy]
     have d0 : ∀ f : FrOf (wr.alloc (.cells #[.int .u32 (x.id : Int),.slice x.ao x.C.length x.cap] 60)),f.val.cell? ⟨g,o + i * 2,none⟩ = some (.int .u32 (p : Int)) := fun f => by
      obtain ⟨g',o',hg',h0,_,_⟩ := (HL.out.2.1.quiet (HFW.out.trans f.fr)).at hy
      rw [hao] at hg'
      cases hg'
      rw [hpy]; exact h0
     have hyid := (HL.out.2.2.1 y (List.mem_of_getElem? hy)).1
     rw [← hpy] at hyid
     have hwi : IntKind.i64.wrap (i : Int) = (i : Int) := by rw [IntKind.wrap_i64]; omega
     have hin : (i : Int) < (n : Int) := by omega
     subst hao
     by_cases hle : x.id ≤ p
     ·have HC : Hid (x.id / 1024 < 1 ∨ x.id ≤ p) := .inr hle
      have hle' : (x.id : Int) ≤ (p : Int) := by omega
      clear hx hmx hkk hls huu hp hok hX hid1 hid HI HPV hy hpy hle
      obtain ⟨xi,xa,xc,C⟩ := x
      simp only at c0 c1 HLS HUN HB4 HBL HBU HON HID b0 b1 HC HFW d0 hle'
      generalize C.length = cl at *
      go_wp2
      generalize hWg : wr.alloc (.cells #[.int .u32 (xi : Int),.slice xa cl xc] 60) = W1 at *
      generalize wr.heap.size = b at *
      clear hWg
      refine wp_region_fr (by kernel_rfl) (by kernel_rfl) ?_
      repeat (with_reducible refine wpQuiet_step (fun K hK => ?_)
              go_simp
              first
               | (refine hK _ ?_; clear hK K)
               | (apply Exists.intro
                  refine ⟨fun _ => ?_,hK _ ?_⟩
                  (go_at_call 116; with_reducible refine Calls.fr_same (HID.out _))
                  clear hK K))
      refine wpQuiet_nil ?_
      rintro w' ⟨f,rfl⟩
      have HF2 : Hid (Fr Nobody w f.val) := HFW.out.trans f.fr
      have HB2 : Hid (∀ w',Fr Nobody f.val w' → w'.cell? ⟨b,0,none⟩ = some (.int .u32 (xi : Int)) ∧ w'.cell? ⟨b,1,none⟩ = some (.slice xa cl xc)) := fun w' hf => ⟨b0 ⟨w',f.fr.trans hf⟩,b1 ⟨w',f.fr.trans hf⟩⟩
      have e1 := b1 f
      generalize f.val = W2 at *
      clear HID b0 b1
      clear d0
      have HN : Hid (fm 0 (evs L) = 4) := HB4.out HC.out
      clear HON HBL HBU HB4 HLS HUN
      go_wp2
      go_ret
      exact ⟨by rw [HN.out]; rfl,HF2.out⟩
     ·have HC : Hid (¬ (x.id / 1024 < 1 ∨ x.id ≤ p)) := by show ¬ _; omega
      have hle' : ¬ (x.id : Int) ≤ (p : Int) := by omega
      clear hx hmx hkk hls huu hp hok hX hid1 hid HI HPV hy hpy hle
      obtain ⟨xi,xa,xc,C⟩ := x
      simp only at c0 c1 HLS HUN HB4 HBL HBU HON HID b0 b1 HC HFW d0 hle'
      generalize C.length = cl at *
      go_wp2
      generalize hWg : wr.alloc (.cells #[.int .u32 (xi : Int),.slice xa cl xc] 60) = W1 at *
      generalize wr.heap.size = b at *
      clear hWg
      refine wp_region_fr (by kernel_rfl) (by kernel_rfl) ?_
      repeat (with_reducible refine wpQuiet_step (fun K hK => ?_)
              go_simp
              first
               | (refine hK _ ?_; clear hK K)
               | (apply Exists.intro
                  refine ⟨fun _ => ?_,hK _ ?_⟩
                  (go_at_call 116; with_reducible refine Calls.fr_same (HID.out _))
                  clear hK K))
      refine wpQuiet_nil ?_
      rintro w' ⟨f,rfl⟩
      have HF2 : Hid (Fr Nobody w f.val) := HFW.out.trans f.fr
      have HB2 : Hid (∀ w',Fr Nobody f.val w' → w'.cell? ⟨b,0,none⟩ = some (.int .u32 (xi : Int)) ∧ w'.cell? ⟨b,1,none⟩ = some (.slice xa cl xc)) := fun w' hf => ⟨b0 ⟨w',f.fr.trans hf⟩,b1 ⟨w',f.fr.trans hf⟩⟩
      have e1 := b1 f
      generalize f.val = W2 at *
      clear HID b0 b1
      clear d0
      go_wp2_with fail
      refine (HLS.out _ HF2.out).mono ?_
      rintro e W3 ⟨rfl,hf3⟩
      have HF3 : Hid (Fr Nobody w W3) := HF2.out.trans hf3
      have e3 := (HB2.out W3 hf3).2
      clear hf3 e1 HB2 HF2 HLS
      by_cases hl0 : ls = 0
      ·subst hl0
       go_wp2_with fail
       refine (HUN.out _ HF3.out).mono ?_
       rintro e W4 ⟨rfl,hf4⟩
       have HF4 : Hid (Fr Nobody w W4) := HF3.out.trans hf4
       clear hf4 e3 HF3 HUN
       cases uu
       ·have HN : Hid (fm (prvE (evs L) ((i + 1) + 1)) ((evs L).drop ((i + 1) + 1)) = fm 0 (evs L)) := HON.out HC.out (by trivial) (by trivial)
        clear HON HBL HBU HB4
        go_wp2
        go_roundw
        case rel => exact ⟨(i + 1) + 1,by omega,by go_num,HN.out,HF4.out⟩
        case measure => simp [intOf]; omega
       ·have HN : Hid (fm 0 (evs L) = 4) := HBU.out HC.out (by trivial) (by trivial)
        clear HON HBL HBU HB4
        go_wp2
        go_ret
        exact ⟨by rw [HN.out]; rfl,HF4.out⟩
      ·have HN : Hid (fm 0 (evs L) = ls) := HBL.out HC.out hl0
       have hl1 : ((ls : Int) != 0) = true := by simpa using hl0
       clear HON HBL HBU HB4
       go_wp2
       go_ret
       exact ⟨by rw [HN.out]; rfl,HF3.out⟩
   ·have hokt : ok = false := by rw [← hok]; exact decide_eq_false hid1
    have HC : Hid (x.id / 1024 < 1 ∨ x.id ≤ p) := .inl (by omega)
    subst hokt hao
    clear hx hmx hkk hls huu hp hok hX hid1 hid HI HPV
    obtain ⟨xi,xa,xc,C⟩ := x
    simp only at c0 c1 HLS HUN HB4 HBL HBU HON HID b0 b1 HC HFW
    generalize C.length = cl at *
    go_wp2
    generalize hWg : wr.alloc (.cells #[.int .u32 (xi : Int),.slice xa cl xc] 60) = W1 at *
    generalize wr.heap.size = b at *
    clear hWg
    refine wp_region_fr (by kernel_rfl) (by kernel_rfl) ?_
    repeat (with_reducible refine wpQuiet_step (fun K hK => ?_)
            go_simp
            first
             | (refine hK _ ?_; clear hK K)
             | (apply Exists.intro
                refine ⟨fun _ => ?_,hK _ ?_⟩
                (go_at_call 116; with_reducible refine Calls.fr_same (HID.out _))
                clear hK K))
    refine wpQuiet_nil ?_
    rintro w' ⟨f,rfl⟩
    have HF2 : Hid (Fr Nobody w f.val) := HFW.out.trans f.fr
    have HB2 : Hid (∀ w',Fr Nobody f.val w' → w'.cell? ⟨b,0,none⟩ = some (.int .u32 (xi : Int)) ∧ w'.cell? ⟨b,1,none⟩ = some (.slice xa cl xc)) := fun w' hf => ⟨b0 ⟨w',f.fr.trans hf⟩,b1 ⟨w',f.fr.trans hf⟩⟩
    have e1 := b1 f
    generalize f.val = W2 at *
    clear HID b0 b1
    have HN : Hid (fm 0 (evs L) = 4) := HB4.out HC.out
    clear HON HBL HBU HB4 HLS HUN
    go_wp2
    go_ret
    exact ⟨by rw [HN.out]; rfl,HF2.out⟩
  ·have hlt' : ¬ (j : Int) < (n : Int) := by omega
   have HN : Hid (fm 0 (evs L) = 0) := fm_end HI.out (by rw [evs_len,HL.out.1]; omega)
   go_wp2
   go_ret
   exact ⟨by rw [HN.out]; rfl,HF.out⟩
end Go.Proofs.YtgifeckbflkkpaaGreatDoor
