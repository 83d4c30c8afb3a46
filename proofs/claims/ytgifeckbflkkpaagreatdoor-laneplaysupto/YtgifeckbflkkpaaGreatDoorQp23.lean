/- Form, of the program and of the document. -/
import Derived.Test.YtgifeckbflkkpaaGreatDoorQp22
import Derived.Test.YtgifeckbflkkpaaGreatDoorQp21
import Derived.Laws.ResultCell
import Derived.Test.YtgifeckbflkkpaaGreatDoorQp12
import Derived.Test.YtgifeckbflkkpaaGreatDoorQp14
namespace Go.Proofs.YtgifeckbflkkpaaGreatDoor
open Go.RowKit
set_option linter.unusedVariables false
set_option maxHeartbeats 8000000
set_option maxRecDepth 100000
theorem form_any (w : World) (ht : Tab w) (ao : Option Addr) (n cap : Nat) (L : List EnE) (h : EntsAt w ao L) (hn : L.length = n) (hI : EIn L) (hz : esz L ≤ 1000000) :
  Calls Tryz.prog 60 #[.slice ao n cap] w fun e w' => e = .returned (.int .i64 ((fm 0 (evs L) : Nat) : Int)) ∧ Fr Nobody w w' := by
 have hm : n ≤ 1000000 := by unfold esz at hz; omega
 have HL : Hid (L.length = n ∧ EntsAt w ao L ∧ EIn L ∧ Tab w ∧ ∀ x ∈ L,x.C.length ≤ 1000000) := ⟨hn,h,hI,ht,fun x hx => by have := csz_mem hx; unfold esz at hz; omega⟩
 clear hn h hI hz ht
 go_enter Tryz.func60,Tryz.ntmps60
 go_wp2
 go_loopw [8] (fun c wr => ∃ j : Nat,j ≤ n ∧ c = .int .i64 j ∧ fm (prvE (evs L) j) ((evs L).drop j) = fm 0 (evs L) ∧ Fr Nobody w wr) (fun c _ => n - (intOf c).toNat)
 case atStart => exact ⟨0,Nat.zero_le _,rfl,rfl,Fr.refl _ _⟩
 case round =>
  obtain ⟨j,hj,rfl,hI,hf⟩ := hrel
  have HI : Hid (fm (prvE (evs L) j) ((evs L).drop j) = fm 0 (evs L)) := hI
  have HF : Hid (Fr Nobody w wr) := hf
  clear hI hf
  by_cases hlt : j < n
  ·obtain ⟨x,hx⟩ : ∃ x,L[j]? = some x := ⟨_,List.getElem?_eq_getElem (by rw [HL.out.1]; exact hlt)⟩
   obtain ⟨g,o,hao,c0,c1,_⟩ := (HL.out.2.1.quiet HF.out).at hx
   have hmx := List.mem_of_getElem? hx
   obtain ⟨hid,hkk⟩ := HL.out.2.2.1 x hmx
   have hlt' : (j : Int) < (n : Int) := by omega
   have hX := evs_at hx
   have HFW : Hid (Fr Nobody w (wr.alloc (.cells #[.int .u32 (x.id : Int),.slice x.ao x.C.length x.cap] 60))) := HF.out.alloc _
   obtain ⟨p,hp⟩ : ∃ p,prvE (evs L) j = p := ⟨_,rfl⟩
   obtain ⟨ls,hls⟩ : ∃ l,lst (-1) x.C = l := ⟨_,rfl⟩
   obtain ⟨uu,huu⟩ : ∃ u,un x.C = u := ⟨_,rfl⟩
   have HLS : Hid (∀ W,Fr Nobody w W → Calls Tryz.prog 117 #[.slice x.ao x.C.length x.cap] W fun e w' => e = .returned (.int .i64 (ls : Int)) ∧ Fr Nobody W w') := fun W hW => by
    rw [← hls]; exact list_any W (HL.out.2.2.2.1.quiet hW) x.ao x.C.length x.cap x.C rfl ((HL.out.2.1.2 x hmx).quiet hW) hkk (HL.out.2.2.2.2 x hmx)
   have HUN : Hid (∀ W,Fr Nobody w W → Calls Tryz.prog 118 #[.slice x.ao x.C.length x.cap,.func (.func 119) #[] #[]] W fun e w' => e = .returned (.bool uu) ∧ Fr Nobody W w') := fun W hW => by
    rw [← huu]; exact hasUn_any W (HL.out.2.2.2.1.quiet hW) x.ao x.C.length x.cap x.C rfl ((HL.out.2.1.2 x hmx).quiet hW) hkk (by have := HL.out.2.2.2.2 x hmx; omega)
   have HB4 : Hid ((x.id / 1024 < 1 ∨ x.id ≤ p) → fm 0 (evs L) = 4) := fun hc => by
    have e := ent1_a (p := p) (x := (x.id,x.C)) hc
    rw [← hp] at e
    rw [fm_bad hX HI.out (by rw [e]; decide),e]
   have HBL : Hid (¬ (x.id / 1024 < 1 ∨ x.id ≤ p) → ls ≠ 0 → fm 0 (evs L) = ls) := fun hc h2 => by
    have e := ent1_b (p := p) (x := (x.id,x.C)) hc (by rw [hls]; exact h2)
    rw [← hp,hls] at e
    rw [fm_bad hX HI.out (by rw [e]; exact h2),e]
   have HBU : Hid (¬ (x.id / 1024 < 1 ∨ x.id ≤ p) → ls = 0 → uu = true → fm 0 (evs L) = 4) := fun hc h2 h3 => by
    have e := ent1_c (p := p) (x := (x.id,x.C)) hc (by rw [hls]; exact h2) (by rw [huu]; exact h3)
    rw [← hp] at e
    rw [fm_bad hX HI.out (by rw [e]; decide),e]
   have HON : Hid (¬ (x.id / 1024 < 1 ∨ x.id ≤ p) → ls = 0 → uu = false → fm (prvE (evs L) (j + 1)) ((evs L).drop (j + 1)) = fm 0 (evs L)) := fun hc h2 h3 => by
    have e := ent1_d (p := p) (x := (x.id,x.C)) hc (by rw [hls]; exact h2) (by rw [huu]; exact h3)
    rw [← hp] at e
    exact fm_on hX HI.out e
   have hl5 : ls < 4294967296 := by rw [← hls]; exact lst_small x.C
   have HPV : Hid (prvE (evs L) j = p) := hp
   obtain ⟨ok,hok⟩ : ∃ ok,decide (1 ≤ x.id / 1024) = ok := ⟨_,rfl⟩
   have HID : Hid (∀ W,Calls Tryz.prog 116 #[.int .u32 (x.id : Int)] W fun e w' => e = .returned (.bool ok) ∧ w' = W) := fun W => by rw [← hok]; exact isID_any x.id W hid
   have b0 : ∀ f : FrOf (wr.alloc (.cells #[.int .u32 (x.id : Int),.slice x.ao x.C.length x.cap] 60)),f.val.cell? ⟨wr.heap.size,0,none⟩ = some (.int .u32 (x.id : Int)) := fun f => (((Own.start wr).allocC _ _).quiet f.fr).cell 0
   have b1 : ∀ f : FrOf (wr.alloc (.cells #[.int .u32 (x.id : Int),.slice x.ao x.C.length x.cap] 60)),f.val.cell? ⟨wr.heap.size,1,none⟩ = some (.slice x.ao x.C.length x.cap) := fun f => (((Own.start wr).allocC _ _).quiet f.fr).cell 1
   by_cases hid1 : 1 ≤ x.id / 1024
   ·have hokt : ok = true := by rw [← hok]; exact decide_eq_true hid1
    subst hokt
    rcases j with _ | i
    ·have hp0 : p = 0 := by rw [← hp]; rfl
     have HC : Hid (¬ (x.id / 1024 < 1 ∨ x.id ≤ p)) := by show ¬ _; omega
     simp only [Nat.zero_mul,Nat.add_zero] at c0 c1
     have hlt0 : (0 : Int) < (n : Int) := by omega
     subst hao
     clear hx hmx hkk hls huu hp hok hX hid1 hp0 hid HI HPV
     obtain ⟨xi,xa,xc,C⟩ := x
     simp only at c0 c1 HLS HUN HB4 HBL HBU HON HID b0 b1 HC HFW
     generalize C.length = cl at *
     go_wp2
     generalize hWg : wr.alloc (.cells #[.int .u32 (xi : Int),.slice xa cl xc] 60) = W1 at *
     generalize wr.heap.size = b at *
     clear hWg
     refine wp_region_fr (by kernel_rfl) (by kernel_rfl) ?_
     repeat (with_reducible refine wpQuiet_step (fun K hK => ?_)
             go_simp
             first
              | (refine hK _ ?_; clear hK K)
              | (apply Exists.intro
                 refine ⟨fun _ => ?_,hK _ ?_⟩
                 (go_at_call 116; with_reducible refine Calls.fr_same (HID.out _))
                 clear hK K))
     refine wpQuiet_nil ?_
     rintro w' ⟨f,rfl⟩
     have HF2 : Hid (Fr Nobody w f.val) := HFW.out.trans f.fr
     have HB2 : Hid (∀ w',Fr Nobody f.val w' → w'.cell? ⟨b,0,none⟩ = some (.int .u32 (xi : Int)) ∧ w'.cell? ⟨b,1,none⟩ = some (.slice xa cl xc)) := fun w' hf => ⟨b0 ⟨w',f.fr.trans hf⟩,b1 ⟨w',f.fr.trans hf⟩⟩
     have e1 := b1 f
     generalize f.val = W2 at *
     clear HID b0 b1
     go_wp2_with fail
     refine (HLS.out _ HF2.out).mono ?_
     rintro e W3 ⟨rfl,hf3⟩
     have HF3 : Hid (Fr Nobody w W3) := HF2.out.trans hf3
     have e3 := (HB2.out W3 hf3).2
     clear hf3 e1 HB2 HF2 HLS
     by_cases hl0 : ls = 0
     ·subst hl0
      go_wp2_with fail
      refine (HUN.out _ HF3.out).mono ?_
      rintro e W4 ⟨rfl,hf4⟩
      have HF4 : Hid (Fr Nobody w W4) := HF3.out.trans hf4
      clear hf4 e3 HF3 HUN
      cases uu
      ·have HN : Hid (fm (prvE (evs L) (0 + 1)) ((evs L).drop (0 + 1)) = fm 0 (evs L)) := HON.out HC.out (by trivial) (by trivial)
       clear HON HBL HBU HB4
       go_wp2
       go_roundw
       case rel => exact ⟨0 + 1,by omega,by go_num,HN.out,HF4.out⟩
       case measure => simp [intOf]; omega
      ·have HN : Hid (fm 0 (evs L) = 4) := HBU.out HC.out (by trivial) (by trivial)
       clear HON HBL HBU HB4
       go_wp2
       go_ret
       exact ⟨by rw [HN.out]; rfl,HF4.out⟩
     ·have HN : Hid (fm 0 (evs L) = ls) := HBL.out HC.out hl0
      have hl1 : ((ls : Int) != 0) = true := by simpa using hl0
      clear HON HBL HBU HB4
      go_wp2
      go_ret
      exact ⟨by rw [HN.out]; rfl,HF3.out⟩
    ·obtain ⟨y,hy⟩ : ∃ y,L[i]? = some y := ⟨_,List.getElem?_eq_getElem (by rw [HL.out.1]; omega)⟩
     have hpy : p = y.id := by rw [← hp]; simp [prvE,evs_at hy]
     have d0 : ∀ f : FrOf (wr.alloc (.cells #[.int .u32 (x.id : Int),.slice x.ao x.C.length x.cap] 60)),f.val.cell? ⟨g,o + i * 2,none⟩ = some (.int .u32 (p : Int)) := fun f => by
      obtain ⟨g',o',hg',h0,_,_⟩ := (HL.out.2.1.quiet (HFW.out.trans f.fr)).at hy
      rw [hao] at hg'
      cases hg'
      rw [hpy]; exact h0
     have hyid := (HL.out.2.2.1 y (List.mem_of_getElem? hy)).1
     rw [← hpy] at hyid
     have hwi : IntKind.i64.wrap (i : Int) = (i : Int) := by rw [IntKind.wrap_i64]; omega
     have hin : (i : Int) < (n : Int) := by omega
     subst hao
     by_cases hle : x.id ≤ p
     ·have HC : Hid (x.id / 1024 < 1 ∨ x.id ≤ p) := .inr hle
      have hle' : (x.id : Int) ≤ (p : Int) := by omega
      clear hx hmx hkk hls huu hp hok hX hid1 hid HI HPV hy hpy hle
      obtain ⟨xi,xa,xc,C⟩ := x
      simp only at c0 c1 HLS HUN HB4 HBL HBU HON HID b0 b1 HC HFW d0 hle'
      generalize C.length = cl at *
      go_wp2
      generalize hWg : wr.alloc (.cells #[.int .u32 (xi : Int),.slice xa cl xc] 60) = W1 at *
      generalize wr.heap.size = b at *
      clear hWg
      refine wp_region_fr (by kernel_rfl) (by kernel_rfl) ?_
      repeat (with_reducible refine wpQuiet_step (fun K hK => ?_)
              go_simp
              first
               | (refine hK _ ?_; clear hK K)
               | (apply Exists.intro
                  refine ⟨fun _ => ?_,hK _ ?_⟩
                  (go_at_call 116; with_reducible refine Calls.fr_same (HID.out _))
                  clear hK K))
      refine wpQuiet_nil ?_
      rintro w' ⟨f,rfl⟩
      have HF2 : Hid (Fr Nobody w f.val) := HFW.out.trans f.fr
      have HB2 : Hid (∀ w',Fr Nobody f.val w' → w'.cell? ⟨b,0,none⟩ = some (.int .u32 (xi : Int)) ∧ w'.cell? ⟨b,1,none⟩ = some (.slice xa cl xc)) := fun w' hf => ⟨b0 ⟨w',f.fr.trans hf⟩,b1 ⟨w',f.fr.trans hf⟩⟩
      have e1 := b1 f
      generalize f.val = W2 at *
      clear HID b0 b1
      clear d0
      have HN : Hid (fm 0 (evs L) = 4) := HB4.out HC.out
      clear HON HBL HBU HB4 HLS HUN
      go_wp2
      go_ret
      exact ⟨by rw [HN.out]; rfl,HF2.out⟩
     ·have HC : Hid (¬ (x.id / 1024 < 1 ∨ x.id ≤ p)) := by show ¬ _; omega
      have hle' : ¬ (x.id : Int) ≤ (p : Int) := by omega
      clear hx hmx hkk hls huu hp hok hX hid1 hid HI HPV hy hpy hle
      obtain ⟨xi,xa,xc,C⟩ := x
      simp only at c0 c1 HLS HUN HB4 HBL HBU HON HID b0 b1 HC HFW d0 hle'
      generalize C.length = cl at *
      go_wp2
      generalize hWg : wr.alloc (.cells #[.int .u32 (xi : Int),.slice xa cl xc] 60) = W1 at *
      generalize wr.heap.size = b at *
      clear hWg
      refine wp_region_fr (by kernel_rfl) (by kernel_rfl) ?_
      repeat (with_reducible refine wpQuiet_step (fun K hK => ?_)
              go_simp
              first
               | (refine hK _ ?_; clear hK K)
               | (apply Exists.intro
                  refine ⟨fun _ => ?_,hK _ ?_⟩
                  (go_at_call 116; with_reducible refine Calls.fr_same (HID.out _))
                  clear hK K))
      refine wpQuiet_nil ?_
      rintro w' ⟨f,rfl⟩
      have HF2 : Hid (Fr Nobody w f.val) := HFW.out.trans f.fr
      have HB2 : Hid (∀ w',Fr Nobody f.val w' → w'.cell? ⟨b,0,none⟩ = some (.int .u32 (xi : Int)) ∧ w'.cell? ⟨b,1,none⟩ = some (.slice xa cl xc)) := fun w' hf => ⟨b0 ⟨w',f.fr.trans hf⟩,b1 ⟨w',f.fr.trans hf⟩⟩
      have e1 := b1 f
      generalize f.val = W2 at *
      clear HID b0 b1
      clear d0
      go_wp2_with fail
      refine (HLS.out _ HF2.out).mono ?_
      rintro e W3 ⟨rfl,hf3⟩
      have HF3 : Hid (Fr Nobody w W3) := HF2.out.trans hf3
      have e3 := (HB2.out W3 hf3).2
      clear hf3 e1 HB2 HF2 HLS
      by_cases hl0 : ls = 0
      ·subst hl0
       go_wp2_with fail
       refine (HUN.out _ HF3.out).mono ?_
       rintro e W4 ⟨rfl,hf4⟩
       have HF4 : Hid (Fr Nobody w W4) := HF3.out.trans hf4
       clear hf4 e3 HF3 HUN
       cases uu
       ·have HN : Hid (fm (prvE (evs L) ((i + 1) + 1)) ((evs L).drop ((i + 1) + 1)) = fm 0 (evs L)) := HON.out HC.out (by trivial) (by trivial)
        clear HON HBL HBU HB4
        go_wp2
        go_roundw
        case rel => exact ⟨(i + 1) + 1,by omega,by go_num,HN.out,HF4.out⟩
        case measure => simp [intOf]; omega
       ·have HN : Hid (fm 0 (evs L) = 4) := HBU.out HC.out (by trivial) (by trivial)
        clear HON HBL HBU HB4
        go_wp2
        go_ret
        exact ⟨by rw [HN.out]; rfl,HF4.out⟩
      ·have HN : Hid (fm 0 (evs L) = ls) := HBL.out HC.out hl0
       have hl1 : ((ls : Int) != 0) = true := by simpa using hl0
       clear HON HBL HBU HB4
       go_wp2
       go_ret
       exact ⟨by rw [HN.out]; rfl,HF3.out⟩
   ·have hokt : ok = false := by rw [← hok]; exact decide_eq_false hid1
    have HC : Hid (x.id / 1024 < 1 ∨ x.id ≤ p) := .inl (by omega)
    subst hokt hao
    clear hx hmx hkk hls huu hp hok hX hid1 hid HI HPV
    obtain ⟨xi,xa,xc,C⟩ := x
    simp only at c0 c1 HLS HUN HB4 HBL HBU HON HID b0 b1 HC HFW
    generalize C.length = cl at *
    go_wp2
    generalize hWg : wr.alloc (.cells #[.int .u32 (xi : Int),.slice xa cl xc] 60) = W1 at *
    generalize wr.heap.size = b at *
    clear hWg
    refine wp_region_fr (by kernel_rfl) (by kernel_rfl) ?_
    repeat (with_reducible refine wpQuiet_step (fun K hK => ?_)
            go_simp
            first
             | (refine hK _ ?_; clear hK K)
             | (apply Exists.intro
                refine ⟨fun _ => ?_,hK _ ?_⟩
                (go_at_call 116; with_reducible refine Calls.fr_same (HID.out _))
                clear hK K))
    refine wpQuiet_nil ?_
    rintro w' ⟨f,rfl⟩
    have HF2 : Hid (Fr Nobody w f.val) := HFW.out.trans f.fr
    have HB2 : Hid (∀ w',Fr Nobody f.val w' → w'.cell? ⟨b,0,none⟩ = some (.int .u32 (xi : Int)) ∧ w'.cell? ⟨b,1,none⟩ = some (.slice xa cl xc)) := fun w' hf => ⟨b0 ⟨w',f.fr.trans hf⟩,b1 ⟨w',f.fr.trans hf⟩⟩
    have e1 := b1 f
    generalize f.val = W2 at *
    clear HID b0 b1
    have HN : Hid (fm 0 (evs L) = 4) := HB4.out HC.out
    clear HON HBL HBU HB4 HLS HUN
    go_wp2
    go_ret
    exact ⟨by rw [HN.out]; rfl,HF2.out⟩
  ·have hlt' : ¬ (j : Int) < (n : Int) := by omega
   have HN : Hid (fm 0 (evs L) = 0) := fm_end HI.out (by rw [evs_len,HL.out.1]; omega)
   go_wp2
   go_ret
   exact ⟨by rw [HN.out]; rfl,HF.out⟩
def dcode (W N : List En) : Nat := if fm 0 W ≠ 0 then fm 0 W else fm 0 N
theorem fm_lt (p : Nat) (L : List En) : fm p L < 4294967296 := by
 induction L generalizing p with
 | nil => simp [fm]
 | cons x t ih =>
  rw [fm]
  split
  ·unfold ent1
   split
   ·decide
   ·split
    ·exact lst_small x.2
    ·split <;> decide
  ·exact ih _
def dlv (W N : List En) : Dl := if dcode W N = 0 then btw W N else ⟨[],[],[]⟩
theorem Own.nilDl {w0 w : World} {l : List Thing} (h : Own w0 w l) : Own w0 w (nilD.things ++ l) :=
 (Own.two ((Own.ents (ao := none) (cap := 0) (L := []) (((h.nilRow _ _).nilRow _ _))).nilRow _ _)).two
theorem diff_any (w0 w : World) (ht : Tab w0) (l : List Thing) (h : Own w0 w l) (aw an : Option Addr) (nw nn cw cn : Nat) (W N : List EnE) (hQ : ∀ w',Own w0 w' l → EntsAt w' aw W ∧ EntsAt w' an N) (hW : W.length = nw) (hN : N.length = nn) (hcw : nw ≤ cw) (hcn : nn ≤ cn) (hmw : cw ≤ 9223372036854775807) (hmn : cn ≤ 9223372036854775807) (hIW : EIn W) (hIN : EIn N) (hzW : esz W ≤ 1000000) (hzN : esz N ≤ 1000000) :
  Calls Tryz.prog 131 #[.slice aw nw cw,.slice an nn cn] w fun e w' => ∃ d : DlE,e = .returned (.tuple #[.agg d.vs,.int .i64 ((dcode (evs W) (evs N) : Nat) : Int)]) ∧ d.v = dlv (evs W) (evs N) ∧ Own w0 w' (d.things ++ l) := by
 have hB := h.allocC #[.slice none 0 0,.slice none 0 0,.slice none 0 0] 106
 have HF1 : Hid (Calls _ _ _ _ _) := form_any _ (ht.quiet hB.fr) aw nw cw W ((hQ _ hB.tail).1) hW hIW hzW
 have HF2 : Hid (∀ w' b,Own w0 w' (Cells b #[.slice none 0 0,.slice none 0 0,.slice none 0 0] 106 :: l) → Calls Tryz.prog 60 #[.slice an nn cn] w' fun e w'' => e = .returned (.int .i64 ((fm 0 (evs N) : Nat) : Int)) ∧ Fr Nobody w' w'') := fun w' b hw => form_any w' (ht.quiet hw.fr) an nn cn N ((hQ w' hw.tail).2) hN hIN hzN
 have HBT : Hid (∀ w' b,Own w0 w' (Cells b #[.slice none 0 0,.slice none 0 0,.slice none 0 0] 106 :: l) → Calls Tryz.prog 160 #[.slice aw nw cw,.slice an nn cn] w' fun e w'' => ∃ d : DlE,e = .returned (.agg d.vs) ∧ d.v = btw (evs W) (evs N) ∧ Own w0 w'' (d.things ++ (Cells b #[.slice none 0 0,.slice none 0 0,.slice none 0 0] 106 :: l))) := fun w' b hw => between_any w0 w' _ hw aw an nw nn cw cn W N (fun w2 hw2 => hQ w2 hw2.tail) hW hN hcw hcn hmw hmn hIW hIN hzW hzN
 have HB : Hid (Own w0 _ _) := hB
 have hs1 := fm_lt 0 (evs W)
 have hs2 := fm_lt 0 (evs N)
 have HDC : Hid (∀ x y,x = fm 0 (evs W) → y = fm 0 (evs N) → dcode (evs W) (evs N) = if x ≠ 0 then x else y) := fun x y hx hy => by rw [hx,hy]; rfl
 obtain ⟨x,hx⟩ : ∃ x,x = fm 0 (evs W) := ⟨_,rfl⟩
 obtain ⟨y,hy⟩ : ∃ y,y = fm 0 (evs N) := ⟨_,rfl⟩
 have HDC2 : Hid (dcode (evs W) (evs N) = if x ≠ 0 then x else y) := HDC.out x y hx hy
 rw [← hx] at HF1 hs1
 rw [← hy] at HF2 hs2
 clear h hQ hW hN hcw hcn hmw hmn hIW hIN hzW hzN hB ht HDC hx hy
 go_enter Tryz.func131,Tryz.ntmps131
 go_wp2_with fail
 refine HF1.out.mono ?_
 rintro e w1 ⟨rfl,hf1⟩
 have h1 := HB.out.quiet hf1
 generalize w.heap.size = b4 at *
 clear HF1 HB hf1
 by_cases hx0 : x = 0
 ·subst hx0
  have HFN : Hid (Calls _ _ _ _ _) := HF2.out w1 b4 h1
  have H1 : Hid (Own w0 w1 _) := h1
  clear h1 HF2
  go_wp2_with fail
  refine HFN.out.mono ?_
  rintro e w2 ⟨rfl,hf2⟩
  have h2 := H1.out.quiet hf2
  clear HFN H1 hf2
  by_cases hy0 : y = 0
  ·subst hy0
   have HBW : Hid (Calls _ _ _ _ _) := HBT.out w2 b4 h2
   have HC : Hid (dcode (evs W) (evs N) = 0) := by show _ = _; rw [HDC2.out]; rfl
   clear h2 HBT HDC2
   go_wp2_with fail
   refine HBW.out.mono ?_
   rintro e w3 ⟨d,rfl,hd,h3⟩
   have h4 := Own.lift (l := d.things) h3
   have z0 := h4.cell 0
   have z1 := h4.cell 1
   have z2 := h4.cell 2
   have y0 := h4.froz 0
   have y1 := h4.froz 1
   have y2 := h4.froz 2
   simp at z0 z1 z2
   have HF : Hid (Own w0 _ _) := ((h4.setC 0 (.slice d.ga d.G.length d.gc)).setC 1 (.slice d.ma d.M.length d.mc)).setC 2 (.slice d.ha d.H.length d.hc)
   have HV : Hid (d.v = dlv (evs W) (evs N)) := by show _ = _; unfold dlv; rw [if_pos HC.out]; exact hd
   clear h3 h4 hd HBW
   unfold DlE.vs
   go_wp2
   (try simp only [Exit.inBlock,Exit.then])
   refine bodyPost_ret (v := .tuple #[.agg #[.slice d.ga d.G.length d.gc,.slice d.ma d.M.length d.mc,.slice d.ha d.H.length d.hc],.int .i64 0]) ?_ rfl ⟨d,by rw [HC.out]; rfl,HV.out,HF.out.tail⟩
   rw [results_cell_tmp rfl]
   have r0 := HF.out.cell 0
   have r1 := HF.out.cell 1
   have r2 := HF.out.cell 2
   simp at r0 r1 r2
   go_simp
  ·have hy1 : ((y : Int) != 0) = true := by simpa using hy0
   have HC : Hid (dcode (evs W) (evs N) = y) := by show _ = _; rw [HDC2.out]; rfl
   have HV : Hid (nilD.v = dlv (evs W) (evs N)) := by show _ = _; unfold dlv; rw [HC.out,if_neg hy0]; rfl
   have z0 := h2.cell 0
   have z1 := h2.cell 1
   have z2 := h2.cell 2
   have y0 := h2.froz 0
   have y1 := h2.froz 1
   have y2 := h2.froz 2
   simp at z0 z1 z2
   have HF : Hid (Own w0 _ _) := ((h2.setC 0 (.slice none 0 0)).setC 1 (.slice none 0 0)).setC 2 (.slice none 0 0)
   clear h2 HBT HDC2 hy0
   go_wp2
   (try simp only [Exit.inBlock,Exit.then])
   refine bodyPost_ret (v := .tuple #[.agg #[.slice none 0 0,.slice none 0 0,.slice none 0 0],.int .i64 (y : Int)]) ?_ rfl ⟨nilD,by rw [HC.out]; rfl,HV.out,HF.out.tail.nilDl⟩
   rw [results_cell_tmp rfl]
   have r0 := HF.out.cell 0
   have r1 := HF.out.cell 1
   have r2 := HF.out.cell 2
   simp at r0 r1 r2
   go_simp
 ·have hx1 : ((x : Int) != 0) = true := by simpa using hx0
  have HC : Hid (dcode (evs W) (evs N) = x) := by show _ = _; rw [HDC2.out,if_pos hx0]
  have HV : Hid (nilD.v = dlv (evs W) (evs N)) := by show _ = _; unfold dlv; rw [HC.out,if_neg hx0]; rfl
  have z0 := h1.cell 0
  have z1 := h1.cell 1
  have z2 := h1.cell 2
  have y0 := h1.froz 0
  have y1 := h1.froz 1
  have y2 := h1.froz 2
  simp at z0 z1 z2
  have HF : Hid (Own w0 _ _) := ((h1.setC 0 (.slice none 0 0)).setC 1 (.slice none 0 0)).setC 2 (.slice none 0 0)
  clear h1 HBT HDC2 HF2 hx0
  go_wp2
  (try simp only [Exit.inBlock,Exit.then])
  refine bodyPost_ret (v := .tuple #[.agg #[.slice none 0 0,.slice none 0 0,.slice none 0 0],.int .i64 (x : Int)]) ?_ rfl ⟨nilD,by rw [HC.out]; rfl,HV.out,HF.out.tail.nilDl⟩
  rw [results_cell_tmp rfl]
  have r0 := HF.out.cell 0
  have r1 := HF.out.cell 1
  have r2 := HF.out.cell 2
  simp at r0 r1 r2
  go_simp
def Dl.empty (d : Dl) : Bool := d.gone.isEmpty && d.come.isEmpty && d.chg.isEmpty
theorem content_no (w0 w : World) (l : List Thing) (p k : Nat) (wv : Value) (a : Option Addr) (c : Nat) (h : Own w0 w l) (h1 : k ≠ 1) (h2 : k ≠ 2) :
  Calls Tryz.prog 86 #[.pointer (some ⟨p,0,none⟩),.int .u8 (k : Int),wv,.slice a 0 c] w fun e w' => e = .returned (.int .i64 0) ∧ Own w0 w' l := by
 have e1 : ((k : Int) == 1) = false := by rw [beq_eq_false_iff_ne]; omega
 have e2 : ((k : Int) == 2) = false := by rw [beq_eq_false_iff_ne]; omega
 have H : Hid (Own w0 w l) := h
 clear h h1 h2
 go_enter Tryz.func86,Tryz.ntmps86
 go_wp2
 go_ret
 exact ⟨rfl,H.out⟩
theorem pack_len (L : List Bool) : (pack L).length = nb L.length := by simp [pack]
theorem pack_byte (L : List Bool) : ∀ x ∈ pack L,x < 256 := by
 intro x hx
 unfold pack at hx
 obtain ⟨i,_,rfl⟩ := List.mem_map.1 hx
 exact byteAt_lt L i
end Go.Proofs.YtgifeckbflkkpaaGreatDoor
