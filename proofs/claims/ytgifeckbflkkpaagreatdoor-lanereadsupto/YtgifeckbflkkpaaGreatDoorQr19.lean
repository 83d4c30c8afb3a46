/- Slots as plain lists: what is taken, what is freed; no program is named here. -/
import Derived.Test.YtgifeckbflkkpaaGreatDoorQr01
import Derived.BigRegion
import Derived.BigQuiet
import Derived.Deep.QuietTactic
import Derived.Test.YtgifeckbflkkpaaGreatDoorQr16
namespace Go.Proofs.YtgifeckbflkkpaaGreatDoor
set_option linter.unusedVariables false
set_option maxHeartbeats 8000000
structure St where
 n : Nat
 first : Nat
 last : List Nat
 used : List Bool
 freed : List Nat
 live : Nat
structure St.Ok (S : St) : Prop where
 n1 : 1 ≤ S.n
 n2 : S.n ≤ 1024
 f1 : 1 ≤ S.first
 f2 : S.first ≤ 4194303
 ul : S.used.length = S.last.length
 le : S.last.length ≤ S.n
 id : ∀ i x,S.last[i]? = some x → x % 1024 = i ∧ 1 ≤ x / 1024 ∧ x < 4294967296
 nodup : S.freed.Nodup
 fr : ∀ f ∈ S.freed,S.used[f]? = some false ∧ ∃ x,S.last[f]? = some x ∧ x / 1024 < 4194303
 cnt : S.freed.length + S.live ≤ S.last.length
 live : S.live = S.used.count true
def St.new (n first : Nat) : St := ⟨n,first,[],[],[],0⟩
def St.again (S : St) (f : Nat) : St := { S with last := S.last.set f (S.last.getD f 0 + 1024),used := S.used.set f true,freed := S.freed.dropLast,live := S.live + 1 }
def St.more (S : St) : St := { S with last := S.last ++ [S.first * 1024 + S.last.length],used := S.used ++ [true],live := S.live + 1 }
def St.take (S : St) : Nat × Int × St :=
 match S.freed.getLast? with
 | some f => (S.last.getD f 0 + 1024,0,S.again f)
 | none => if S.last.length < S.n then (S.first * 1024 + S.last.length,0,S.more) else (0,8,S)
theorem St.Ok.getD {S : St} (h : S.Ok) {f x : Nat} (hx : S.last[f]? = some x) : S.last.getD f 0 = x := by rw [List.getD_eq_getElem?_getD,hx]; rfl
theorem St.Ok.lt {S : St} (h : S.Ok) {f : Nat} (hf : f ∈ S.freed) : f < S.last.length := by
 obtain ⟨h1,_⟩ := h.fr f hf
 rw [← h.ul]; exact (List.getElem?_eq_some_iff.1 h1).1
end Go.Proofs.YtgifeckbflkkpaaGreatDoor
namespace Go.Proofs.YtgifeckbflkkpaaGreatDoor
open Go.RowKit
set_option linter.unusedVariables false
set_option maxHeartbeats 8000000
theorem slot_any (id : Nat) (w : World) (h : id < 4294967296) : Calls Tryz.prog 145 #[.int .u32 (id : Int)] w fun e w' => e = .returned (.int .i64 ((id % 1024 : Nat) : Int)) ∧ w' = w := by
 go_enter Tryz.func145,Tryz.ntmps145
 go_wp2
 go_ret
 exact ⟨ret_int (by omega),rfl⟩
theorem gen_any (id : Nat) (w : World) (h : id < 4294967296) : Calls Tryz.prog 146 #[.int .u32 (id : Int)] w fun e w' => e = .returned (.int .i64 ((id / 1024 : Nat) : Int)) ∧ w' = w := by
 go_enter Tryz.func146,Tryz.ntmps146
 go_wp2
 go_ret
 exact ⟨ret_int (by omega),rfl⟩
theorem isGen_yes (g : Int) (w : World) (h1 : 1 ≤ g) (h2 : g ≤ 4194303) : Calls Tryz.prog 175 #[.int .i64 g] w fun e w' => e = .returned (.bool true) ∧ w' = w := by
 go_enter Tryz.func175,Tryz.ntmps175
 go_wp2
 go_ret
 exact ⟨rfl,rfl⟩
theorem isGen_no (g : Int) (w : World) (h : g < 1 ∨ 4194303 < g) : Calls Tryz.prog 175 #[.int .i64 g] w fun e w' => e = .returned (.bool false) ∧ w' = w := by
 rcases h with h | h
 ·go_enter Tryz.func175,Tryz.ntmps175
  go_wp2
  go_ret
  exact ⟨rfl,rfl⟩
 ·have h1 : 1 ≤ g := by omega
  have hd : decide (g ≤ 4194303) = false := by simp; omega
  go_enter Tryz.func175,Tryz.ntmps175
  go_wp2
  go_ret
  exact ⟨rfl,rfl⟩
theorem number_any (s g : Nat) (w : World) (h1 : s < 1024) (h2 : g ≤ 4194303) : Calls Tryz.prog 176 #[.int .i64 (s : Int),.int .i64 (g : Int)] w fun e w' => e = .returned (.int .u32 ((g * 1024 + s : Nat) : Int)) ∧ w' = w := by
 go_enter Tryz.func176,Tryz.ntmps176
 go_wp2
 go_ret
 exact ⟨ret_int (by omega),rfl⟩
set_option maxRecDepth 100000 in
theorem make_yes (s g : Nat) (w : World) (h1 : s < 1024) (h2 : 1 ≤ g) (h3 : g ≤ 4194303) : Calls Tryz.prog 144 #[.int .i64 (s : Int),.int .i64 (g : Int)] w fun e w' => e = .returned (.tuple #[.int .u32 ((g * 1024 + s : Nat) : Int),.int .i64 0]) ∧ w' = w := by
 go_enter Tryz.func144,Tryz.ntmps144
 go_wp2_with (first | (go_at_call 175; refine (isGen_yes _ _ (by omega) (by omega)).mono ?_; rintro e w' ⟨rfl,rfl⟩) | (go_at_call 176; refine (number_any _ _ _ h1 h3).mono ?_; rintro e w' ⟨rfl,rfl⟩))
 go_ret2
 exact ⟨rfl,rfl⟩
theorem make_no (s g : Int) (w : World) (h : s < 0 ∨ 1024 ≤ s ∨ g < 1 ∨ 4194303 < g) : Calls Tryz.prog 144 #[.int .i64 s,.int .i64 g] w fun e w' => e = .returned (.tuple #[.int .u32 0,.int .i64 1]) ∧ w' = w := by
 by_cases c1 : s < 0
 ·go_enter Tryz.func144,Tryz.ntmps144
  go_wp2
  go_ret2
  exact ⟨rfl,rfl⟩
 ·by_cases c2 : 1024 ≤ s
  ·go_enter Tryz.func144,Tryz.ntmps144
   go_wp2
   go_ret2
   exact ⟨rfl,rfl⟩
  ·go_enter Tryz.func144,Tryz.ntmps144
   go_wp2_with (first | (go_at_call 175; refine (isGen_no _ _ (by omega)).mono ?_; rintro e w' ⟨rfl,rfl⟩))
   go_ret2
   exact ⟨rfl,rfl⟩
end Go.Proofs.YtgifeckbflkkpaaGreatDoor
namespace Go.Proofs.YtgifeckbflkkpaaGreatDoor
open Go.RowKit
set_option linter.unusedVariables false
set_option maxHeartbeats 8000000
set_option maxRecDepth 100000
theorem sameEnts_any (w : World) (a1 a2 : Option Addr) (n1 n2 c1 c2 : Nat) (L M : List EnE) (h1 : EntsAt w a1 L) (h2 : EntsAt w a2 M) (hn1 : L.length = n1) (hn2 : M.length = n2) (hz1 : esz L ≤ 2097152) (hz2 : esz M ≤ 2097152) :
  Calls Tryz.prog 16 #[.slice a1 n1 c1,.slice a2 n2 c2] w fun e w' => e = .returned (.bool (decide (evs L = evs M))) ∧ Fr Nobody w w' := by
 have hm1 : n1 ≤ 2097152 := by unfold esz at hz1; omega
 have HZ : Hid ((∀ x ∈ L,x.C.length ≤ 2097152) ∧ ∀ x ∈ M,x.C.length ≤ 2097152) := ⟨fun x hx => by have := csz_mem hx; unfold esz at hz1; omega,fun x hx => by have := csz_mem hx; unfold esz at hz2; omega⟩
 have hlL := evs_len L
 have hlM := evs_len M
 by_cases hne : n1 = n2
 ·have H1 : Hid (EntsAt w a1 L ∧ EntsAt w a2 M ∧ L.length = n1 ∧ M.length = n1) := ⟨h1,h2,hn1,by rw [hn2,hne]⟩
  have HLL : Hid ((evs L).length ≤ n1 ∧ (evs M).length ≤ n1) := ⟨by omega,by omega⟩
  rw [← hne]
  clear h1 h2 hn1 hn2 hne hz1 hz2 hlL hlM
  have hne' : ((n1 : Int) != (n1 : Int)) = false := by simp
  go_enter Tryz.func16,Tryz.ntmps16
  go_wp2
  clear hne'
  go_loopw [13] (fun cc wr => ∃ k : Nat,k ≤ n1 ∧ cc = .int .i64 k ∧ Fr Nobody w wr ∧ (evs L).take k = (evs M).take k) (fun cc _ => n1 - (intOf cc).toNat)
  case atStart => exact ⟨0,Nat.zero_le _,rfl,Fr.refl _ _,by simp⟩
  case round =>
   obtain ⟨k,hk,rfl,hf,heq⟩ := hrel
   have HF : Hid (Fr Nobody w wr) := hf
   have HE : Hid ((evs L).take k = (evs M).take k) := heq
   clear hf heq
   by_cases hlt : k < n1
   ·obtain ⟨x,hx⟩ : ∃ x,L[k]? = some x := ⟨_,List.getElem?_eq_getElem (by rw [H1.out.2.2.1]; exact hlt)⟩
    obtain ⟨y,hy⟩ : ∃ y,M[k]? = some y := ⟨_,List.getElem?_eq_getElem (by rw [H1.out.2.2.2]; exact hlt)⟩
    obtain ⟨g1,o1,hg1,_,_,_⟩ := (H1.out.1.quiet HF.out).at hx
    obtain ⟨g2,o2,hg2,_,_,_⟩ := (H1.out.2.1.quiet HF.out).at hy
    subst hg1 hg2
    have hlt' : (k : Int) < (n1 : Int) := by omega
    have r0 : ∀ f : FrOf wr,f.val.cell? ⟨g1,o1 + k * 2,none⟩ = some (.int .u32 (x.id : Int)) := fun f => by
     obtain ⟨g,o,hg,h0,h1,_⟩ := (H1.out.1.quiet (HF.out.trans f.fr)).at hx
     cases hg; exact h0
    have r1 : ∀ f : FrOf wr,f.val.cell? ⟨g1,o1 + k * 2 + 1,none⟩ = some (.slice x.ao x.C.length x.cap) := fun f => by
     obtain ⟨g,o,hg,h0,h1,_⟩ := (H1.out.1.quiet (HF.out.trans f.fr)).at hx
     cases hg; exact h1
    have s0 : ∀ f : FrOf wr,f.val.cell? ⟨g2,o2 + k * 2,none⟩ = some (.int .u32 (y.id : Int)) := fun f => by
     obtain ⟨g,o,hg,h0,h1,_⟩ := (H1.out.2.1.quiet (HF.out.trans f.fr)).at hy
     cases hg; exact h0
    have s1 : ∀ f : FrOf wr,f.val.cell? ⟨g2,o2 + k * 2 + 1,none⟩ = some (.slice y.ao y.C.length y.cap) := fun f => by
     obtain ⟨g,o,hg,h0,h1,_⟩ := (H1.out.2.1.quiet (HF.out.trans f.fr)).at hy
     cases hg; exact h1
    obtain ⟨r,hr⟩ : ∃ r,decide ((x.id,x.C) = (y.id,y.C)) = r := ⟨_,rfl⟩
    have CS : Hid (∀ f : FrOf wr,Calls Tryz.prog 56 #[.agg #[.int .u32 (x.id : Int),.slice x.ao x.C.length x.cap],.agg #[.int .u32 (y.id : Int),.slice y.ao y.C.length y.cap]] f.val fun e w' => e = .returned (.bool r) ∧ Fr Nobody f.val w') := fun f => by
     rw [← hr]
     exact eqEn_r f.val x.id y.id x.ao y.ao x.C.length y.C.length x.cap y.cap x.C y.C ((H1.out.1.quiet (HF.out.trans f.fr)).2 x (List.mem_of_getElem? hx)) ((H1.out.2.1.quiet (HF.out.trans f.fr)).2 y (List.mem_of_getElem? hy)) rfl rfl (HZ.out.1 x (List.mem_of_getElem? hx)) (HZ.out.2 y (List.mem_of_getElem? hy))
    have HXY : Hid ((evs L)[k]? = some (x.id,x.C) ∧ (evs M)[k]? = some (y.id,y.C)) := ⟨evs_at hx,evs_at hy⟩
    have HR : Hid (decide ((x.id,x.C) = (y.id,y.C)) = r) := hr
    clear hx hy hr
    obtain ⟨xi,xa,xc,xC⟩ := x
    obtain ⟨yi,ya,yc,yC⟩ := y
    simp only at r0 r1 s0 s1 CS HXY HR
    generalize xC.length = xl at *
    generalize yC.length = yl at *
    go_wp2
    refine wp_region_fr (by kernel_rfl) (by kernel_rfl) ?_
    repeat (with_reducible refine wpQuiet_step (fun K hK => ?_)
            go_simp
            first
             | (refine hK _ ?_; clear hK K)
             | (apply Exists.intro
                refine ⟨fun _ => ?_,hK _ ?_⟩
                (go_at_call 56; with_reducible refine Calls.fr_of (CS.out _))
                clear hK K))
    refine wpQuiet_nil ?_
    rintro w' ⟨f,rfl⟩
    have HF2 : Hid (Fr Nobody w f.val) := HF.out.trans f.fr
    clear r0 r1 s0 s1 CS
    cases r
    ·have HN : Hid (decide (evs L = evs M) = false) := take_ne HXY.out.1 HXY.out.2 HR.out
     go_wp2
     go_ret
     exact ⟨by rw [HN.out]; rfl,HF2.out⟩
    ·have HN : Hid ((evs L).take (k + 1) = (evs M).take (k + 1)) := take_eq HXY.out.1 HXY.out.2 HR.out HE.out
     go_wp2
     go_roundw
     case rel => exact ⟨k + 1,by omega,by go_num,HF2.out,HN.out⟩
     case measure => simp [intOf]; omega
   ·have hlt' : ¬ (k : Int) < (n1 : Int) := by omega
    have HN : Hid (decide (evs L = evs M) = true) := take_all (by have := HLL.out.1; omega) (by have := HLL.out.2; omega) HE.out
    go_wp2
    go_ret
    exact ⟨by rw [HN.out]; rfl,HF.out⟩
 ·have HN : Hid (decide (evs L = evs M) = false) := len_ne (by omega)
  have hne' : ((n1 : Int) != (n2 : Int)) = true := by rw [bne_iff_ne]; omega
  clear h1 h2 hn1 hn2 hne hlL hlM hz1 hz2
  go_enter Tryz.func16,Tryz.ntmps16
  go_wp2
  go_ret
  exact ⟨by rw [HN.out]; rfl,Fr.refl _ _⟩
def FindR (L : List EnE) (i : Nat) (r : Int) : Prop := (r = -1 ∧ ∀ x ∈ L,x.id ≠ i) ∨ ∃ (j : Nat) (x : EnE),r = (j : Int) ∧ L[j]? = some x ∧ x.id = i ∧ ∀ y ∈ L.take j,y.id ≠ i
theorem rfindE_any (w : World) (ao : Option Addr) (n cap : Nat) (L : List EnE) (h : EntsAt w ao L) (hn : L.length = n) (hm : n ≤ 2097152) (i : Nat) :
  Calls Tryz.prog 52 #[.slice ao n cap,.int .u32 (i : Int)] w fun e w' => ∃ r : Int,e = .returned (.int .i64 r) ∧ FindR L i r ∧ Fr Nobody w w' := by
 have HL : Hid (L.length = n ∧ EntsAt w ao L) := ⟨hn,h⟩
 clear hn h
 go_enter Tryz.func52,Tryz.ntmps52
 go_wp2
 go_loopw [9] (fun c wr => ∃ j : Nat,j ≤ n ∧ c = .int .i64 j ∧ Fr Nobody w wr ∧ ∀ y ∈ L.take j,y.id ≠ i) (fun c _ => n - (intOf c).toNat)
 case atStart => exact ⟨0,Nat.zero_le _,rfl,Fr.refl _ _,by simp⟩
 case round =>
  obtain ⟨j,hj,rfl,hf,hno⟩ := hrel
  have HF : Hid (Fr Nobody w wr) := hf
  have HN : Hid (∀ y ∈ L.take j,y.id ≠ i) := hno
  clear hf hno
  by_cases hlt : j < n
  ·obtain ⟨x,hx⟩ : ∃ x,L[j]? = some x := ⟨_,List.getElem?_eq_getElem (by rw [HL.out.1]; exact hlt)⟩
   obtain ⟨g,o,hao,c0,c1,_⟩ := (HL.out.2.quiet HF.out).at hx
   subst hao
   have hlt' : (j : Int) < (n : Int) := by omega
   have HX : Hid (L[j]? = some x) := hx
   by_cases he : x.id = i
   ·have HE : Hid (x.id = i) := he
    have he' : ((x.id : Int) == (i : Int)) = true := by rw [he]; simp
    clear hx he
    have HP : Hid (FindR L i (j : Int)) := .inr ⟨j,x,rfl,HX.out,HE.out,HN.out⟩
    clear HX HE
    obtain ⟨xi,xa,xc,C⟩ := x
    simp only at c0 c1 he'
    go_wp2
    go_ret
    exact ⟨(j : Int),rfl,HP.out,HF.out.alloc _⟩
   ·have HE : Hid (∀ y ∈ L.take (j + 1),y.id ≠ i) := by
     show ∀ y ∈ L.take (j + 1),y.id ≠ i
     intro y hy
     rw [List.take_add_one,hx] at hy
     rcases List.mem_append.1 hy with hy | hy
     ·exact HN.out y hy
     ·simp at hy; rw [hy]; exact he
    have he' : ((x.id : Int) == (i : Int)) = false := by rw [beq_eq_false_iff_ne]; omega
    clear hx he HX
    obtain ⟨xi,xa,xc,C⟩ := x
    simp only at c0 c1 he'
    go_wp2
    go_roundw
    case rel => exact ⟨j + 1,by omega,by go_num,HF.out.alloc _,HE.out⟩
    case measure => simp [intOf]; omega
  ·have hlt' : ¬ (j : Int) < (n : Int) := by omega
   have HP : Hid (FindR L i (-1)) := .inl ⟨rfl,fun x hx => HN.out x (by rw [List.take_of_length_le (by rw [HL.out.1]; omega)]; exact hx)⟩
   go_wp2
   go_ret
   exact ⟨-1,rfl,HP.out,HF.out⟩
theorem rgen_e (id : Nat) (w : World) (h : id < 4294967296) : Calls Tryz.prog 69 #[.int .u32 (id : Int)] w fun e w' => e = .returned (.int .i64 ((id / 1024 : Nat) : Int)) ∧ w' = w := by
 go_enter Tryz.func69,Tryz.ntmps69
 go_wp2
 go_ret
 exact ⟨by go_num,rfl⟩
theorem isID_any (id : Nat) (w : World) (h : id < 4294967296) : Calls Tryz.prog 116 #[.int .u32 (id : Int)] w fun e w' => e = .returned (.bool (decide (1 ≤ id / 1024))) ∧ w' = w := by
 have HS : Hid (∀ W,Calls Tryz.prog 145 #[.int .u32 (id : Int)] W fun e w' => e = .returned (.int .i64 ((id % 1024 : Nat) : Int)) ∧ w' = W) := fun W => slot_any id W h
 have HG : Hid (∀ W,Calls Tryz.prog 146 #[.int .u32 (id : Int)] W fun e w' => e = .returned (.int .i64 ((id / 1024 : Nat) : Int)) ∧ w' = W) := fun W => gen_any id W h
 obtain ⟨s,hs⟩ : ∃ s,id % 1024 = s := ⟨_,rfl⟩
 obtain ⟨g,hg⟩ : ∃ g,id / 1024 = g := ⟨_,rfl⟩
 have hs2 : s < 1024 := by omega
 have hg2 : g ≤ 4194303 := by omega
 rw [hs] at HS
 rw [hg] at HG ⊢
 clear hs hg h
 by_cases h1 : 1 ≤ g
 ·have HM : Hid (∀ W,Calls Tryz.prog 144 #[.int .i64 (s : Int),.int .i64 (g : Int)] W fun e w' => e = .returned (.tuple #[.int .u32 ((g * 1024 + s : Nat) : Int),.int .i64 0]) ∧ w' = W) := fun W => make_yes s g W hs2 h1 hg2
  rw [decide_eq_true h1]
  go_enter Tryz.func116,Tryz.ntmps116
  go_wp2_with fail
  refine (HS.out _).mono ?_
  rintro e w1 ⟨rfl,rfl⟩
  go_wp2_with fail
  refine (HG.out _).mono ?_
  rintro e w1 ⟨rfl,rfl⟩
  go_wp2_with fail
  refine (HM.out _).mono ?_
  rintro e w1 ⟨rfl,rfl⟩
  go_wp2
  go_ret
  exact ⟨rfl,rfl⟩
 ·have HM : Hid (∀ W,Calls Tryz.prog 144 #[.int .i64 (s : Int),.int .i64 (g : Int)] W fun e w' => e = .returned (.tuple #[.int .u32 0,.int .i64 1]) ∧ w' = W) := fun W => make_no s g W (.inr (.inr (.inl (by omega))))
  rw [decide_eq_false h1]
  go_enter Tryz.func116,Tryz.ntmps116
  go_wp2_with fail
  refine (HS.out _).mono ?_
  rintro e w1 ⟨rfl,rfl⟩
  go_wp2_with fail
  refine (HG.out _).mono ?_
  rintro e w1 ⟨rfl,rfl⟩
  go_wp2_with fail
  refine (HM.out _).mono ?_
  rintro e w1 ⟨rfl,rfl⟩
  go_wp2
  go_ret
  exact ⟨rfl,rfl⟩
theorem untold_any (w : World) (ht : Tab w) (q : Cp) (hk : q.k < 256) : Calls Tryz.prog 119 #[.agg #[.int .u8 (q.k : Int),.int .i32 q.a,.int .i32 q.b,.int .i32 q.c]] w fun e w' => e = .returned (.bool (!ktold q.k)) ∧ Fr Nobody w w' := by
 have HT : Hid (Calls _ _ _ _ _) := told_any (w.alloc (.cells #[.int .u8 (q.k : Int),.int .i32 q.a,.int .i32 q.b,.int .i32 q.c] 63)) (ht.quiet ((Fr.refl _ _).alloc _)) q.k hk
 have HF : Hid (Fr Nobody w (w.alloc (.cells #[.int .u8 (q.k : Int),.int .i32 q.a,.int .i32 q.b,.int .i32 q.c] 63))) := (Fr.refl _ _).alloc _
 generalize ktold q.k = r at *
 obtain ⟨qk,qa,qb,qc⟩ := q
 simp only at HT HF hk
 clear ht
 go_enter Tryz.func119,Tryz.ntmps119
 go_wp2_with fail
 refine HT.out.mono ?_
 rintro e w1 ⟨rfl,rfl⟩
 go_wp2
 go_ret
 exact ⟨rfl,HF.out⟩
theorem un_snoc (C : List Cp) (q : Cp) : un (C ++ [q]) = (un C || !ktold q.k) := by simp [un]
theorem un_mem {C : List Cp} {q : Cp} (h : q ∈ C) (hq : ktold q.k = false) : un C = true := by
 unfold un
 rw [List.any_eq_true]
 exact ⟨q,h,by simp [hq]⟩
theorem idxUn_any (w : World) (ht : Tab w) (ao : Option Addr) (n cap : Nat) (C : List Cp) (hn : C.length = n) (hs : Cs w ao C) (hk : ∀ q ∈ C,q.k < 256) (hm : n ≤ 2097152) :
  Calls Tryz.prog 148 #[.slice ao n cap,.func (.func 119) #[] #[]] w fun e w' => ∃ r : Int,e = .returned (.int .i64 r) ∧ Fr Nobody w w' ∧ ((r = -1 ∧ un C = false) ∨ (0 ≤ r ∧ un C = true)) := by
 have HL : Hid (C.length = n ∧ Cs w ao C ∧ (∀ q ∈ C,q.k < 256) ∧ Tab w) := ⟨hn,hs,hk,ht⟩
 clear hn hs hk ht
 go_enter Tryz.func148,Tryz.ntmps148
 go_wp2
 go_loopw [8] (fun cc wr => ∃ j : Nat,j ≤ n ∧ cc = .int .i64 j ∧ Fr Nobody w wr ∧ un (C.take j) = false) (fun cc _ => n - (intOf cc).toNat)
 case atStart => exact ⟨0,Nat.zero_le _,rfl,Fr.refl _ _,by simp [un]⟩
 case round =>
  obtain ⟨j,hj,rfl,hf,hno⟩ := hrel
  have HF : Hid (Fr Nobody w wr) := hf
  have HN : Hid (un (C.take j) = false) := hno
  clear hf hno
  by_cases hlt : j < n
  ·obtain ⟨q,hq⟩ : ∃ q,C[j]? = some q := ⟨_,List.getElem?_eq_getElem (by rw [HL.out.1]; exact hlt)⟩
   obtain ⟨g,o,hao,_,c0,c1,c2,c3⟩ := (HL.out.2.1.quiet HF.out).at j q hq
   subst hao
   have hlt' : (j : Int) < (n : Int) := by omega
   have HP : Hid (Calls _ _ _ _ _) := untold_any wr (HL.out.2.2.2.quiet HF.out) q (HL.out.2.2.1 q (List.mem_of_getElem? hq))
   have HU1 : Hid (ktold q.k = false → un C = true) := fun e => un_mem (List.mem_of_getElem? hq) e
   have HU2 : Hid (ktold q.k = true → un (C.take (j + 1)) = false) := fun e => by rw [take_snoc C j q hq,un_snoc,HN.out,e]; rfl
   clear hq
   generalize ktold q.k = r at *
   obtain ⟨qk,qa,qb,qc⟩ := q
   simp only at c0 c1 c2 c3 HP
   go_wp2_with fail
   refine HP.out.mono ?_
   rintro e w2 ⟨rfl,hf⟩
   have HF2 : Hid (Fr Nobody w w2) := HF.out.trans hf
   clear hf HP
   cases r
   ·have HU : Hid (un C = true) := HU1.out rfl
    go_wp2
    go_ret
    exact ⟨(j : Int),rfl,HF2.out,.inr ⟨by omega,HU.out⟩⟩
   ·have HU : Hid (un (C.take (j + 1)) = false) := HU2.out rfl
    go_wp2
    go_roundw
    case rel => exact ⟨j + 1,by omega,by go_num,HF2.out,HU.out⟩
    case measure => simp [intOf]; omega
  ·have hlt' : ¬ (j : Int) < (n : Int) := by omega
   have HU : Hid (un C = false) := by have := HN.out; rw [List.take_of_length_le (by rw [HL.out.1]; omega)] at this; exact this
   go_wp2
   go_ret
   exact ⟨-1,rfl,HF.out,.inl ⟨rfl,HU.out⟩⟩
theorem hasUn_any (w : World) (ht : Tab w) (ao : Option Addr) (n cap : Nat) (C : List Cp) (hn : C.length = n) (hs : Cs w ao C) (hk : ∀ q ∈ C,q.k < 256) (hm : n ≤ 2097152) :
  Calls Tryz.prog 118 #[.slice ao n cap,.func (.func 119) #[] #[]] w fun e w' => e = .returned (.bool (un C)) ∧ Fr Nobody w w' := by
 have HI : Hid (Calls _ _ _ _ _) := idxUn_any w ht ao n cap C hn hs hk hm
 clear ht hn hs hk
 generalize un C = u at *
 go_enter Tryz.func118,Tryz.ntmps118
 go_wp2_with fail
 refine HI.out.mono ?_
 rintro e w2 ⟨r,rfl,hf,hr⟩
 have HF : Hid (Fr Nobody w w2) := hf
 clear hf HI
 rcases hr with ⟨rfl,rfl⟩ | ⟨h0,rfl⟩
 ·go_wp2
  go_ret
  exact ⟨rfl,HF.out⟩
 ·go_wp2
  go_ret
  exact ⟨by simp,HF.out⟩
def prvE (L : List En) (j : Nat) : Nat := match j with
 | 0 => 0
 | i + 1 => (((L[i]?).map (fun x => x.1)).getD 0)
theorem fm_bad {L : List En} {j : Nat} {x : En} (hx : L[j]? = some x) (h : fm (prvE L j) (L.drop j) = fm 0 L) (hc : ent1 (prvE L j) x ≠ 0) : fm 0 L = ent1 (prvE L j) x := by
 have hj := (List.getElem?_eq_some_iff.1 hx)
 rw [← h,List.drop_eq_getElem_cons hj.1,hj.2,fm,if_pos hc]
theorem fm_on {L : List En} {j : Nat} {x : En} (hx : L[j]? = some x) (h : fm (prvE L j) (L.drop j) = fm 0 L) (hc : ent1 (prvE L j) x = 0) : fm (prvE L (j + 1)) (L.drop (j + 1)) = fm 0 L := by
 have hj := (List.getElem?_eq_some_iff.1 hx)
 rw [← h,List.drop_eq_getElem_cons hj.1,hj.2,fm,if_neg (by simp [hc])]
 simp [prvE,hx]
theorem fm_end {L : List En} {j : Nat} (h : fm (prvE L j) (L.drop j) = fm 0 L) (hj : L.length ≤ j) : fm 0 L = 0 := by
 rw [← h,List.drop_eq_nil_of_le hj,fm]
theorem ent1_a {p : Nat} {x : En} (h : x.1 / 1024 < 1 ∨ x.1 ≤ p) : ent1 p x = 4 := by unfold ent1; rw [if_pos h]
theorem ent1_b {p : Nat} {x : En} (h : ¬ (x.1 / 1024 < 1 ∨ x.1 ≤ p)) (h2 : lst (-1) x.2 ≠ 0) : ent1 p x = lst (-1) x.2 := by unfold ent1; rw [if_neg h,if_pos h2]
theorem ent1_c {p : Nat} {x : En} (h : ¬ (x.1 / 1024 < 1 ∨ x.1 ≤ p)) (h2 : lst (-1) x.2 = 0) (h3 : un x.2 = true) : ent1 p x = 4 := by unfold ent1; rw [if_neg h,if_neg (by simp [h2]),if_pos h3]
theorem ent1_d {p : Nat} {x : En} (h : ¬ (x.1 / 1024 < 1 ∨ x.1 ≤ p)) (h2 : lst (-1) x.2 = 0) (h3 : un x.2 = false) : ent1 p x = 0 := by unfold ent1; rw [if_neg h,if_neg (by simp [h2]),if_neg (by simp [h3])]
theorem lst_small (L : List Cp) : lst (-1) L < 4294967296 := by
 have key : ∀ (L : List Cp) (p : Int),lst p L ≤ 5 := by
  intro L
  induction L with
  | nil => intro p; simp [lst]
  | cons q t ih =>
   intro p
   rw [lst]
   split
   ·exact chk_lt q
   ·split
    ·omega
    ·exact ih _
 have := key L (-1)
 omega
theorem form_any (w : World) (ht : Tab w) (ao : Option Addr) (n cap : Nat) (L : List EnE) (h : EntsAt w ao L) (hn : L.length = n) (hI : EIn L) (hz : esz L ≤ 1000000) :
  Calls Tryz.prog 60 #[.slice ao n cap] w fun e w' => e = .returned (.int .i64 ((fm 0 (evs L) : Nat) : Int)) ∧ Fr Nobody w w' := by
 have hm : n ≤ 1000000 := by unfold esz at hz; omega
 have HL : Hid (L.length = n ∧ EntsAt w ao L ∧ EIn L ∧ Tab w ∧ ∀ x ∈ L,x.C.length ≤ 1000000) := ⟨hn,h,hI,ht,fun x hx => by have := csz_mem hx; unfold esz at hz; omega⟩
 clear hn h hI hz ht
 go_enter Tryz.func60,Tryz.ntmps60
 go_wp2
 go_loopw [8] (fun c wr => ∃ j : Nat,j ≤ n ∧ c = .int .i64 j ∧ fm (prvE (evs L) j) ((evs L).drop j) = fm 0 (evs L) ∧ Fr Nobody w wr) (fun c _ => n - (intOf c).toNat)
 case atStart => exact ⟨0,Nat.zero_le _,rfl,rfl,Fr.refl _ _⟩
 case round =>
  obtain ⟨j,hj,rfl,hI,hf⟩ := hrel
  have HI : Hid (fm (prvE (evs L) j) ((evs L).drop j) = fm 0 (evs L)) := hI
  have HF : Hid (Fr Nobody w wr) := hf
  clear hI hf
  by_cases hlt : j < n
  ·obtain ⟨x,hx⟩ : ∃ x,L[j]? = some x := ⟨_,List.getElem?_eq_getElem (by rw [HL.out.1]; exact hlt)⟩
   obtain ⟨g,o,hao,c0,c1,_⟩ := (HL.out.2.1.quiet HF.out).at hx
   have hmx := List.mem_of_getElem? hx
   obtain ⟨hid,hkk⟩ := HL.out.2.2.1 x hmx
   have hlt' : (j : Int) < (n : Int) := by omega
   have hX := evs_at hx
   have HFW : Hid (Fr Nobody w (wr.alloc (.cells #[.int .u32 (x.id : Int),.slice x.ao x.C.length x.cap] 60))) := HF.out.alloc _
   obtain ⟨p,hp⟩ : ∃ p,prvE (evs L) j = p := ⟨_,rfl⟩
   obtain ⟨ls,hls⟩ : ∃ l,lst (-1) x.C = l := ⟨_,rfl⟩
   obtain ⟨uu,huu⟩ : ∃ u,un x.C = u := ⟨_,rfl⟩
   have HLS : Hid (∀ W,Fr Nobody w W → Calls Tryz.prog 117 #[.slice x.ao x.C.length x.cap] W fun e w' => e = .returned (.int .i64 (ls : Int)) ∧ Fr Nobody W w') := fun W hW => by
    rw [← hls]; exact list_any W (HL.out.2.2.2.1.quiet hW) x.ao x.C.length x.cap x.C rfl ((HL.out.2.1.2 x hmx).quiet hW) hkk (HL.out.2.2.2.2 x hmx)
   have HUN : Hid (∀ W,Fr Nobody w W → Calls Tryz.prog 118 #[.slice x.ao x.C.length x.cap,.func (.func 119) #[] #[]] W fun e w' => e = .returned (.bool uu) ∧ Fr Nobody W w') := fun W hW => by
    rw [← huu]; exact hasUn_any W (HL.out.2.2.2.1.quiet hW) x.ao x.C.length x.cap x.C rfl ((HL.out.2.1.2 x hmx).quiet hW) hkk (by have := HL.out.2.2.2.2 x hmx; omega)
   have HB4 : Hid ((x.id / 1024 < 1 ∨ x.id ≤ p) → fm 0 (evs L) = 4) := fun hc => by
    have e := ent1_a (p := p) (x := (x.id,x.C)) hc
    rw [← hp] at e
    rw [fm_bad hX HI.out (by rw [e]; decide),e]
   have HBL : Hid (¬ (x.id / 1024 < 1 ∨ x.id ≤ p) → ls ≠ 0 → fm 0 (evs L) = ls) := fun hc h2 => by
    have e := ent1_b (p := p) (x := (x.id,x.C)) hc (by rw [hls]; exact h2)
    rw [← hp,hls] at e
    rw [fm_bad hX HI.out (by rw [e]; exact h2),e]
   have HBU : Hid (¬ (x.id / 1024 < 1 ∨ x.id ≤ p) → ls = 0 → uu = true → fm 0 (evs L) = 4) := fun hc h2 h3 => by
    have e := ent1_c (p := p) (x := (x.id,x.C)) hc (by rw [hls]; exact h2) (by rw [huu]; exact h3)
    rw [← hp] at e
    rw [fm_bad hX HI.out (by rw [e]; decide),e]
   have HON : Hid (¬ (x.id / 1024 < 1 ∨ x.id ≤ p) → ls = 0 → uu = false → fm (prvE (evs L) (j + 1)) ((evs L).drop (j + 1)) = fm 0 (evs L)) := fun hc h2 h3 => by
    have e := ent1_d (p := p) (x := (x.id,x.C)) hc (by rw [hls]; exact h2) (by rw [huu]; exact h3)
    rw [← hp] at e
    exact fm_on hX HI.out e
   have hl5 : ls < 4294967296 := by rw [← hls]; exact lst_small x.C
   have HPV : Hid (prvE (evs L) j = p) := hp
   obtain ⟨ok,hok⟩ : ∃ ok,decide (1 ≤ x.id / 1024) = ok := ⟨_,rfl⟩
   have HID : Hid (∀ W,Calls Tryz.prog 116 #[.int .u32 (x.id : Int)] W fun e w' => e = .returned (.bool ok) ∧ w' = W) := fun W => by rw [← hok]; exact isID_any x.id W hid
   have b0 : ∀ f : FrOf (wr.alloc (.cells #[.int .u32 (x.id : Int),.slice x.ao x.C.length x.cap] 60)),f.val.cell? ⟨wr.heap.size,0,none⟩ = some (.int .u32 (x.id : Int)) := fun f => (((Own.start wr).allocC _ _).quiet f.fr).cell 0
   have b1 : ∀ f : FrOf (wr.alloc (.cells #[.int .u32 (x.id : Int),.slice x.ao x.C.length x.cap] 60)),f.val.cell? ⟨wr.heap.size,1,none⟩ = some (.slice x.ao x.C.length x.cap) := fun f => (((Own.start wr).allocC _ _).quiet f.fr).cell 1
   by_cases hid1 : 1 ≤ x.id / 1024
   ·have hokt : ok = true := by rw [← hok]; exact decide_eq_true hid1
    subst hokt
    rcases j with _ | i
    ·have hp0 : p = 0 := by rw [← hp]; rfl
     have HC : Hid (¬ (x.id / 1024 < 1 ∨ x.id ≤ p)) := by show ¬ _; omega
     simp only [Nat.zero_mul,Nat.add_zero] at c0 c1
     have hlt0 : (0 : Int) < (n : Int) := by omega
     subst hao
     clear hx hmx hkk hls huu hp hok hX hid1 hp0 hid HI HPV
     obtain ⟨xi,xa,xc,C⟩ := x
     simp only at c0 c1 HLS HUN HB4 HBL HBU HON HID b0 b1 HC HFW
     generalize C.length = cl at *
     go_wp2
     generalize hWg : wr.alloc (.cells #[.int .u32 (xi : Int),.slice xa cl xc] 60) = W1 at *
     generalize wr.heap.size = b at *
     clear hWg
     refine wp_region_fr (by kernel_rfl) (by kernel_rfl) ?_
     repeat (with_reducible refine wpQuiet_step (fun K hK => ?_)
             go_simp
             first
              | (refine hK _ ?_; clear hK K)
              | (apply Exists.intro
                 refine ⟨fun _ => ?_,hK _ ?_⟩
                 (go_at_call 116; with_reducible refine Calls.fr_same (HID.out _))
                 clear hK K))
     refine wpQuiet_nil ?_
     rintro w' ⟨f,rfl⟩
     have HF2 : Hid (Fr Nobody w f.val) := HFW.out.trans f.fr
     have HB2 : Hid (∀ w',Fr Nobody f.val w' → w'.cell? ⟨b,0,none⟩ = some (.int .u32 (xi : Int)) ∧ w'.cell? ⟨b,1,none⟩ = some (.slice xa cl xc)) := fun w' hf => ⟨b0 ⟨w',f.fr.trans hf⟩,b1 ⟨w',f.fr.trans hf⟩⟩
     have e1 := b1 f
     generalize f.val = W2 at *
     clear HID b0 b1
     go_wp2_with fail
     refine (HLS.out _ HF2.out).mono ?_
     rintro e W3 ⟨rfl,hf3⟩
     have HF3 : Hid (Fr Nobody w W3) := HF2.out.trans hf3
     have e3 := (HB2.out W3 hf3).2
     clear hf3 e1 HB2 HF2 HLS
     by_cases hl0 : ls = 0
     ·subst hl0
      go_wp2_with fail
      refine (HUN.out _ HF3.out).mono ?_
      rintro e W4 ⟨rfl,hf4⟩
      have HF4 : Hid (Fr Nobody w W4) := HF3.out.trans hf4
      clear hf4 e3 HF3 HUN
      cases uu
      ·have HN : Hid (fm (prvE (evs L) (0 + 1)) ((evs L).drop (0 + 1)) = fm 0 (evs L)) := HON.out HC.out (by trivial) (by trivial)
       clear HON HBL HBU HB4
       go_wp2
       go_roundw
       case rel => exact ⟨0 + 1,by omega,by go_num,HN.out,HF4.out⟩
       case measure => simp [intOf]; omega
      ·have HN : Hid (fm 0 (evs L) = 4) := HBU.out HC.out (by trivial) (by trivial)
       clear HON HBL HBU HB4
       go_wp2
       go_ret
       exact ⟨by rw [HN.out]; rfl,HF4.out⟩
     ·have HN : Hid (fm 0 (evs L) = ls) := HBL.out HC.out hl0
      have hl1 : ((ls : Int) != 0) = true := by simpa using hl0
      clear HON HBL HBU HB4
      go_wp2
      go_ret
      exact ⟨by rw [HN.out]; rfl,HF3.out⟩
    ·obtain ⟨y,hy⟩ : ∃ y,L[i]? = some y := ⟨_,List.getElem?_eq_getElem (by rw [HL.out.1]; omega)⟩
     have hpy : p = y.id := by rw [← hp]; simp [prvE,evs_at hy]
     have d0 : ∀ f : FrOf (wr.alloc (.cells #[.int .u32 (x.id : Int),.slice x.ao x.C.length x.cap] 60)),f.val.cell? ⟨g,o + i * 2,none⟩ = some (.int .u32 (p : Int)) := fun f => by
      obtain ⟨g',o',hg',h0,_,_⟩ := (HL.out.2.1.quiet (HFW.out.trans f.fr)).at hy
      rw [hao] at hg'
      cases hg'
      rw [hpy]; exact h0
     have hyid := (HL.out.2.2.1 y (List.mem_of_getElem? hy)).1
     rw [← hpy] at hyid
     have hwi : IntKind.i64.wrap (i : Int) = (i : Int) := by rw [IntKind.wrap_i64]; omega
     have hin : (i : Int) < (n : Int) := by omega
     subst hao
     by_cases hle : x.id ≤ p
     ·have HC : Hid (x.id / 1024 < 1 ∨ x.id ≤ p) := .inr hle
      have hle' : (x.id : Int) ≤ (p : Int) := by omega
      clear hx hmx hkk hls huu hp hok hX hid1 hid HI HPV hy hpy hle
      obtain ⟨xi,xa,xc,C⟩ := x
      simp only at c0 c1 HLS HUN HB4 HBL HBU HON HID b0 b1 HC HFW d0 hle'
      generalize C.length = cl at *
      go_wp2
      generalize hWg : wr.alloc (.cells #[.int .u32 (xi : Int),.slice xa cl xc] 60) = W1 at *
      generalize wr.heap.size = b at *
      clear hWg
      refine wp_region_fr (by kernel_rfl) (by kernel_rfl) ?_
      repeat (with_reducible refine wpQuiet_step (fun K hK => ?_)
              go_simp
              first
               | (refine hK _ ?_; clear hK K)
               | (apply Exists.intro
                  refine ⟨fun _ => ?_,hK _ ?_⟩
                  (go_at_call 116; with_reducible refine Calls.fr_same (HID.out _))
                  clear hK K))
      refine wpQuiet_nil ?_
      rintro w' ⟨f,rfl⟩
      have HF2 : Hid (Fr Nobody w f.val) := HFW.out.trans f.fr
      have HB2 : Hid (∀ w',Fr Nobody f.val w' → w'.cell? ⟨b,0,none⟩ = some (.int .u32 (xi : Int)) ∧ w'.cell? ⟨b,1,none⟩ = some (.slice xa cl xc)) := fun w' hf => ⟨b0 ⟨w',f.fr.trans hf⟩,b1 ⟨w',f.fr.trans hf⟩⟩
      have e1 := b1 f
      generalize f.val = W2 at *
      clear HID b0 b1
      clear d0
      have HN : Hid (fm 0 (evs L) = 4) := HB4.out HC.out
      clear HON HBL HBU HB4 HLS HUN
      go_wp2
      go_ret
      exact ⟨by rw [HN.out]; rfl,HF2.out⟩
     ·have HC : Hid (¬ (x.id / 1024 < 1 ∨ x.id ≤ p)) := by show ¬ _; omega
      have hle' : ¬ (x.id : Int) ≤ (p : Int) := by omega
      clear hx hmx hkk hls huu hp hok hX hid1 hid HI HPV hy hpy hle
      obtain ⟨xi,xa,xc,C⟩ := x
      simp only at c0 c1 HLS HUN HB4 HBL HBU HON HID b0 b1 HC HFW d0 hle'
      generalize C.length = cl at *
      go_wp2
      generalize hWg : wr.alloc (.cells #[.int .u32 (xi : Int),.slice xa cl xc] 60) = W1 at *
      generalize wr.heap.size = b at *
      clear hWg
      refine wp_region_fr (by kernel_rfl) (by kernel_rfl) ?_
      repeat (with_reducible refine wpQuiet_step (fun K hK => ?_)
              go_simp
              first
               | (refine hK _ ?_; clear hK K)
               | (apply Exists.intro
                  refine ⟨fun _ => ?_,hK _ ?_⟩
                  (go_at_call 116; with_reducible refine Calls.fr_same (HID.out _))
                  clear hK K))
      refine wpQuiet_nil ?_
      rintro w' ⟨f,rfl⟩
      have HF2 : Hid (Fr Nobody w f.val) := HFW.out.trans f.fr
      have HB2 : Hid (∀ w',Fr Nobody f.val w' → w'.cell? ⟨b,0,none⟩ = some (.int .u32 (xi : Int)) ∧ w'.cell? ⟨b,1,none⟩ = some (.slice xa cl xc)) := fun w' hf => ⟨b0 ⟨w',f.fr.trans hf⟩,b1 ⟨w',f.fr.trans hf⟩⟩
      have e1 := b1 f
      generalize f.val = W2 at *
      clear HID b0 b1
      clear d0
      go_wp2_with fail
      refine (HLS.out _ HF2.out).mono ?_
      rintro e W3 ⟨rfl,hf3⟩
      have HF3 : Hid (Fr Nobody w W3) := HF2.out.trans hf3
      have e3 := (HB2.out W3 hf3).2
      clear hf3 e1 HB2 HF2 HLS
      by_cases hl0 : ls = 0
      ·subst hl0
       go_wp2_with fail
       refine (HUN.out _ HF3.out).mono ?_
       rintro e W4 ⟨rfl,hf4⟩
       have HF4 : Hid (Fr Nobody w W4) := HF3.out.trans hf4
       clear hf4 e3 HF3 HUN
       cases uu
       ·have HN : Hid (fm (prvE (evs L) ((i + 1) + 1)) ((evs L).drop ((i + 1) + 1)) = fm 0 (evs L)) := HON.out HC.out (by trivial) (by trivial)
        clear HON HBL HBU HB4
        go_wp2
        go_roundw
        case rel => exact ⟨(i + 1) + 1,by omega,by go_num,HN.out,HF4.out⟩
        case measure => simp [intOf]; omega
       ·have HN : Hid (fm 0 (evs L) = 4) := HBU.out HC.out (by trivial) (by trivial)
        clear HON HBL HBU HB4
        go_wp2
        go_ret
        exact ⟨by rw [HN.out]; rfl,HF4.out⟩
      ·have HN : Hid (fm 0 (evs L) = ls) := HBL.out HC.out hl0
       have hl1 : ((ls : Int) != 0) = true := by simpa using hl0
       clear HON HBL HBU HB4
       go_wp2
       go_ret
       exact ⟨by rw [HN.out]; rfl,HF3.out⟩
   ·have hokt : ok = false := by rw [← hok]; exact decide_eq_false hid1
    have HC : Hid (x.id / 1024 < 1 ∨ x.id ≤ p) := .inl (by omega)
    subst hokt hao
    clear hx hmx hkk hls huu hp hok hX hid1 hid HI HPV
    obtain ⟨xi,xa,xc,C⟩ := x
    simp only at c0 c1 HLS HUN HB4 HBL HBU HON HID b0 b1 HC HFW
    generalize C.length = cl at *
    go_wp2
    generalize hWg : wr.alloc (.cells #[.int .u32 (xi : Int),.slice xa cl xc] 60) = W1 at *
    generalize wr.heap.size = b at *
    clear hWg
    refine wp_region_fr (by kernel_rfl) (by kernel_rfl) ?_
    repeat (with_reducible refine wpQuiet_step (fun K hK => ?_)
            go_simp
            first
             | (refine hK _ ?_; clear hK K)
             | (apply Exists.intro
                refine ⟨fun _ => ?_,hK _ ?_⟩
                (go_at_call 116; with_reducible refine Calls.fr_same (HID.out _))
                clear hK K))
    refine wpQuiet_nil ?_
    rintro w' ⟨f,rfl⟩
    have HF2 : Hid (Fr Nobody w f.val) := HFW.out.trans f.fr
    have HB2 : Hid (∀ w',Fr Nobody f.val w' → w'.cell? ⟨b,0,none⟩ = some (.int .u32 (xi : Int)) ∧ w'.cell? ⟨b,1,none⟩ = some (.slice xa cl xc)) := fun w' hf => ⟨b0 ⟨w',f.fr.trans hf⟩,b1 ⟨w',f.fr.trans hf⟩⟩
    have e1 := b1 f
    generalize f.val = W2 at *
    clear HID b0 b1
    have HN : Hid (fm 0 (evs L) = 4) := HB4.out HC.out
    clear HON HBL HBU HB4 HLS HUN
    go_wp2
    go_ret
    exact ⟨by rw [HN.out]; rfl,HF2.out⟩
  ·have hlt' : ¬ (j : Int) < (n : Int) := by omega
   have HN : Hid (fm 0 (evs L) = 0) := fm_end HI.out (by rw [evs_len,HL.out.1]; omega)
   go_wp2
   go_ret
   exact ⟨by rw [HN.out]; rfl,HF.out⟩
end Go.Proofs.YtgifeckbflkkpaaGreatDoor
