/- The document's Take of slots. -/
import Derived.Test.YtogmdoiecpihdaaGreatDoorQw18
import Derived.Test.YtogmdoiecpihdaaGreatDoorQw17
import Derived.Test.YtogmdoiecpihdaaGreatDoorQw13
import Derived.Test.YtogmdoiecpihdaaGreatDoorQw14
namespace Go.Proofs.YtogmdoiecpihdaaGreatDoor
open Go.RowKit
set_option linter.unusedVariables false
set_option maxHeartbeats 4000000
theorem one_again (S : St) (f : Nat → Nat) (j x : Nat) (hx : S.last[j]? = some x) (hu : j < S.used.length) : flat 3 S.n (one (S.again j) (updn f j 0)) = (((flat 3 S.n (one S f)).set (j * 3) (.int .i64 ((x / 1024 + 1 : Nat) : Int))).set (j * 3 + 1) (.bool true)).set (j * 3 + 2) (.int .i64 0) := by
 have hl := (List.getElem?_eq_some_iff.1 hx).1
 rw [flat_set3 S.n (one S f) (one (S.again j) (updn f j 0)) j ?_]
 ·have e0 : one (S.again j) (updn f j 0) j 0 = .int .i64 ((x / 1024 + 1 : Nat) : Int) := by
   simp only [one,St.again]; rw [getD_set_same _ _ _ _ hl,getD_some hx,if_pos trivial]
   rw [Nat.add_div_right x (by decide)]
  have e1 : one (S.again j) (updn f j 0) j 1 = .bool true := by simp only [one,St.again]; rw [getD_set_same _ _ _ _ hu]; rfl
  have e2 : one (S.again j) (updn f j 0) j 2 = .int .i64 0 := by unfold one; rw [if_neg (by decide),if_neg (by decide),updn_same]; rfl
  rw [e0,e1,e2]
 ·intro a b hab
  simp only [one,St.again]
  rw [getD_set_other _ _ _ _ _ hab,getD_set_other _ _ _ _ _ hab,updn_other _ _ _ _ hab]
theorem one_more (S : St) (f : Nat → Nat) (hul : S.used.length = S.last.length) (hf1 : S.last.length < 1024) (hf : f S.last.length = 0) : flat 3 S.n (one S.more f) = (((flat 3 S.n (one S f)).set (S.last.length * 3) (.int .i64 (S.first : Int))).set (S.last.length * 3 + 1) (.bool true)).set (S.last.length * 3 + 2) (.int .i64 0) := by
 rw [flat_set3 S.n (one S f) (one S.more f) S.last.length ?_]
 ·have e0 : one S.more f S.last.length 0 = .int .i64 (S.first : Int) := by
   simp only [one,St.more]; rw [getD_snoc_same,if_pos trivial]
   rw [show (S.first * 1024 + S.last.length) / 1024 = S.first by omega]
  have e1 : one S.more f S.last.length 1 = .bool true := by
   simp only [one,St.more]
   have : (S.used ++ [true]).getD S.last.length false = true := by rw [← hul]; exact getD_snoc_same _ _ _
   rw [this]; rfl
  have e2 : one S.more f S.last.length 2 = .int .i64 0 := by unfold one; rw [if_neg (by decide),if_neg (by decide),hf]; rfl
  rw [e0,e1,e2]
 ·intro a b hab
  simp only [one,St.more]
  rw [getD_snoc_other _ _ _ _ hab,getD_snoc_other _ _ _ _ (by rw [hul]; exact hab)]
def Best (f : Nat → Nat) (k : Nat) (b : Int) : Prop := (b = -1 ∧ ∀ i,i < k → f i = 0) ∨ ∃ j : Nat,j < k ∧ b = (j : Int) ∧ 0 < f j ∧ ∀ i,i < k → f i ≤ f j
set_option maxRecDepth 100000 in
theorem rtake_ok (w0 w : World) (l : List Thing) (c : Nat) (S : St) (f : Nat → Nat) (ck : Nat) (h : Own w0 w (RSlots c S f ck :: l)) (hS : S.Ok) (hT : Stamp S f ck) (hck : ck ≤ 1000000) :
  Calls Tryz.prog 171 #[.pointer (some ⟨c,0,none⟩)] w fun e w' => e = .returned (.tuple #[.int .u32 (S.take.1 : Int),.int .i64 S.take.2.1]) ∧ ∃ f',Stamp S.take.2.2 f' ck ∧ Own w0 w' (RSlots c S.take.2.2 f' ck :: l) := by
 obtain ⟨⟨g,cp⟩,h⟩ := Own.ex_iff.1 h
 have q1 := h.cell 1
 have hn := hS.n2
 have hd := h.ne
 have hgc : g ≠ c := fun q => hd (by rw [q]; rfl)
 simp at q1
 have H : Hid (Own w0 w (Cells c #[.int .i64 (S.first : Int),.slice (some ⟨g,0,none⟩) S.n cp,.int .i64 (ck : Int)] 239 :: Row 255 3 (.slice (some ⟨g,0,none⟩) S.n cp) S.n (flat 3 S.n (one S f)) :: l)) := h
 have HS : Hid (S.Ok ∧ Stamp S f ck) := ⟨hS,hT⟩
 have HLE : Hid (∀ i,(f i : Int) ≤ 1000000) := fun i => by have := hT.le i; omega
 clear h hS hT hd
 go_enter Tryz.func171,Tryz.ntmps171
 go_wp2
 go_loopw [4,16] (fun bv cc wr => ∃ (k : Nat) (b : Int),k ≤ S.n ∧ cc = .int .i64 k ∧ bv = .int .i64 b ∧ Best f k b ∧ Own w0 wr (Cells c #[.int .i64 (S.first : Int),.slice (some ⟨g,0,none⟩) S.n cp,.int .i64 (ck : Int)] 239 :: Row 255 3 (.slice (some ⟨g,0,none⟩) S.n cp) S.n (flat 3 S.n (one S f)) :: l)) (fun _ cc _ => S.n - (intOf cc).toNat)
 case atStart => exact ⟨0,-1,Nat.zero_le _,rfl,rfl,.inl ⟨rfl,fun i hi => by omega⟩,H.out⟩
 case round =>
  obtain ⟨k,b,hk,rfl,rfl,hB,hO⟩ := hrel
  clear H q1
  by_cases hlt : k < S.n
  ·have q1 := hO.cell 1
   simp at q1
   have c0 : wr.cell? ⟨g,k * 3,none⟩ = some (.int .i64 ((S.last.getD k 0 / 1024 : Nat) : Int)) := hO.two.fcell k 0 hlt (by decide) _ (by omega)
   have c1 : wr.cell? ⟨g,k * 3 + 1,none⟩ = some (.bool (S.used.getD k false)) := hO.two.fcell k 1 hlt (by decide) _ (by omega)
   have c2 : wr.cell? ⟨g,k * 3 + 2,none⟩ = some (.int .i64 (f k : Int)) := hO.two.fcell k 2 hlt (by decide) _ (by omega)
   have hcl := hO.lt
   have hgl := World.block_lt_of_cell? wr _ c0
   have HO : Hid (Own w0 wr _) := hO
   rcases hB with ⟨rfl,hz⟩ | ⟨j,hj,rfl,hp,hm⟩
   ·by_cases hfk : f k = 0
    ·have HB : Hid (Best f (k + 1) (-1)) := .inl ⟨rfl,fun i hi => by by_cases e : i = k; rw [e]; exact hfk; exact hz i (by omega)⟩
     rw [hfk] at c2
     clear hO hz hfk
     generalize S.used.getD k false = u at *
     generalize S.last.getD k 0 / 1024 = gn at *
     go_wp2
     go_quiet (fail)
     go_wp2
     go_roundw
     case rel => exact ⟨k + 1,-1,by omega,by go_num,rfl,HB.out,(HO.out.alloc _).drewN _⟩
     case measure => simp [intOf]; omega
    ·have HB : Hid (Best f (k + 1) (k : Int)) := .inr ⟨k,by omega,rfl,by omega,fun i hi => by by_cases e : i = k; rw [e]; exact Nat.le_refl _; rw [hz i (by omega)]; omega⟩
     have hfk' : (0 : Int) < (f k : Int) := by omega
     have hdd : 0 < f k := by omega
     clear hO hz hfk
     generalize f k = fk at *
     generalize S.used.getD k false = u at *
     generalize S.last.getD k 0 / 1024 = gn at *
     go_wp2
     go_quiet (fail)
     go_wp2
     go_roundw
     case rel => exact ⟨k + 1,k,by omega,by go_num,rfl,HB.out,(HO.out.alloc _).drewN _⟩
     case measure => simp [intOf]; omega
   ·have d2 : wr.cell? ⟨g,j * 3 + 2,none⟩ = some (.int .i64 (f j : Int)) := hO.two.fcell j 2 (by omega) (by decide) _ (by omega)
    by_cases hfk : f k = 0
    ·have HB : Hid (Best f (k + 1) (j : Int)) := .inr ⟨j,by omega,rfl,hp,fun i hi => by by_cases e : i = k; rw [e,hfk]; exact Nat.zero_le _; exact hm i (by omega)⟩
     rw [hfk] at c2
     clear hO hm hfk
     generalize S.used.getD k false = u at *
     generalize S.last.getD k 0 / 1024 = gn at *
     go_wp2
     go_quiet (fail)
     go_wp2
     go_roundw
     case rel => exact ⟨k + 1,j,by omega,by go_num,rfl,HB.out,(HO.out.alloc _).drewN _⟩
     case measure => simp [intOf]; omega
    ·have hfk' : (0 : Int) < (f k : Int) := by omega
     have hdd : 0 < f k := by omega
     by_cases hgt : f j < f k
     ·have HB : Hid (Best f (k + 1) (k : Int)) := .inr ⟨k,by omega,rfl,by omega,fun i hi => by by_cases e : i = k; rw [e]; exact Nat.le_refl _; have := hm i (by omega); omega⟩
      have hgt' : (f j : Int) < (f k : Int) := by omega
      have hjn : (j : Int) < (S.n : Int) := by omega
      clear hO hm hfk hp
      generalize f k = fk at *
      generalize f j = fj at *
      generalize S.used.getD k false = u at *
      generalize S.last.getD k 0 / 1024 = gn at *
      go_wp2
      go_quiet (fail)
      go_wp2
      go_roundw
      case rel => exact ⟨k + 1,k,by omega,by go_num,rfl,HB.out,(HO.out.alloc _).drewN _⟩
      case measure => simp [intOf]; omega
     ·have HB : Hid (Best f (k + 1) (j : Int)) := .inr ⟨j,by omega,rfl,hp,fun i hi => by by_cases e : i = k; rw [e]; omega; exact hm i (by omega)⟩
      have hgt' : decide ((f j : Int) < (f k : Int)) = false := by simp; omega
      have hjn : (j : Int) < (S.n : Int) := by omega
      clear hO hm hfk hp
      generalize f k = fk at *
      generalize f j = fj at *
      generalize S.used.getD k false = u at *
      generalize S.last.getD k 0 / 1024 = gn at *
      go_wp2
      go_quiet (fail)
      go_wp2
      go_roundw
      case rel => exact ⟨k + 1,j,by omega,by go_num,rfl,HB.out,(HO.out.alloc _).drewN _⟩
      case measure => simp [intOf]; omega
  ·have ek : k = S.n := by omega
   subst ek
   have q0 := hO.cell 0
   have q1 := hO.cell 1
   simp at q0 q1
   have hcl := hO.lt
   have HO : Hid (Own w0 wr _) := hO
   clear hO
   cases hf : S.freed.getLast? with
   | some j =>
    obtain ⟨hp,hmx,hinj⟩ := HS.out.2.last HS.out.1 hf
    have e := dropLast_of _ _ hf
    have hjm : j ∈ S.freed := by rw [e]; simp
    obtain ⟨hu,x,hx,hgx⟩ := HS.out.1.fr j hjm
    have HTK : Hid (S.take = (x + 1024,0,S.again j)) := S.take_again hf hx
    have hid := HS.out.1.id j x hx
    have hjn : j < S.n := by have := HS.out.1.lt hjm; have := HS.out.1.le; omega
    have hb : b = (j : Int) := by
     rcases hB with ⟨_,hz⟩ | ⟨i,hi,hb,_,hm⟩
     ·have := hz j hjn; omega
     ·have h1 := hm j hjn
      have h2 := hmx i
      rw [hb,hinj i (by omega)]
    subst hb
    have HST : Hid (Stamp (S.again j) (updn f j 0) ck) := HS.out.2.again HS.out.1 hf
    have HON : Hid (flat 3 S.n (one (S.again j) (updn f j 0)) = (((flat 3 S.n (one S f)).set (j * 3) (.int .i64 ((x / 1024 + 1 : Nat) : Int))).set (j * 3 + 1) (.bool true)).set (j * 3 + 2) (.int .i64 0)) := one_again S f j x hx (by rw [HS.out.1.ul]; exact HS.out.1.lt hjm)
    have HX : Hid (S.last.getD j 0 = x) := getD_some hx
    have c0 : wr.cell? ⟨g,j * 3,none⟩ = some (.int .i64 ((x / 1024 : Nat) : Int)) := by
     have := HO.out.two.fcell j 0 hjn (by decide) (j * 3) (by omega)
     rw [this]; unfold one; rw [if_pos rfl,HX.out]
    have c1 : wr.cell? ⟨g,j * 3 + 1,none⟩ = some (.bool (S.used.getD j false)) := HO.out.two.fcell j 1 hjn (by decide) _ (by omega)
    have c2 : wr.cell? ⟨g,j * 3 + 2,none⟩ = some (.int .i64 (f j : Int)) := HO.out.two.fcell j 2 hjn (by decide) _ (by omega)
    have y0 : wr.frozen? ⟨g,j * 3,none⟩ = false := HO.out.two.ffroz _
    have y1 : wr.frozen? ⟨g,j * 3 + 1,none⟩ = false := HO.out.two.ffroz _
    have y2 : wr.frozen? ⟨g,j * 3 + 2,none⟩ = false := HO.out.two.ffroz _
    have hjn' : (j : Int) < (S.n : Int) := by omega
    obtain ⟨gn,hgn⟩ : ∃ gn,gn = x / 1024 := ⟨_,rfl⟩
    have hg1 : 1 ≤ gn := by omega
    have HM : Hid (∀ w',Calls Tryz.prog 162 #[.int .i64 (j : Int),.int .i64 ((gn + 1 : Nat) : Int)] w' fun e w'' => e = .returned (.tuple #[.int .u32 ((x + 1024 : Nat) : Int),.int .i64 0]) ∧ w'' = w') := by
     intro w'
     have := rmake_yes j (gn + 1) w' (by omega) (by omega) (by omega)
     rw [show (gn + 1) * 1024 + j = x + 1024 by omega] at this; exact this
    have hne1 : (((gn : Int) + 1) == 1) = false := by simp; omega
    have hgm : (gn : Int) < 4194303 := by omega
    rw [← hgn] at c0 HON
    clear hp hmx hinj e hjm hu hx hgx hid hB hf hgn hg1
    go_wp2
    go_loopw [4,7] (fun bv iv wr2 => bv = .int .i64 (j : Int) ∧ iv = .int .i64 0 ∧ wr2 = wr) (fun _ _ _ => 0)
    case atStart => exact ⟨rfl,rfl,rfl⟩
    case round =>
     obtain ⟨rfl,rfl,hw⟩ := hrel
     subst hw
     have hjb : decide ((j : Int) < 0) = false := by simp
     go_wp2_with (first | (go_at_call 162; refine (HM.out _).mono ?_; rintro e w' ⟨rfl,hw⟩; subst hw))
     go_ret2
     rw [HTK.out]
     refine ⟨rfl,updn f j 0,HST.out,Own.ex_iff.2 ⟨(g,cp),?_⟩⟩
     have k := ((((HO.out.two.setR (j * 3) (.int .i64 ((gn : Int) + 1))).setR (j * 3 + 1) (.bool true)).setR (j * 3 + 2) (.int .i64 0)).two)
     show Own w0 _ (Cells c #[.int .i64 (S.first : Int),.slice (some ⟨g,0,none⟩) S.n cp,.int .i64 (ck : Int)] 239 :: Row 255 3 (.slice (some ⟨g,0,none⟩) S.n cp) S.n (flat 3 S.n (one (S.again j) (updn f j 0))) :: l)
     rw [HON.out]
     exact k
   | none =>
    have hf' : S.freed = [] := List.getLast?_eq_none_iff.1 hf
    have hz0 := HS.out.2.none hf'
    have hb : b = -1 := by
     rcases hB with ⟨hb,_⟩ | ⟨i,hi,hb,hp,_⟩
     ·exact hb
     ·have := hz0 i; omega
    subst hb
    have hle := HS.out.1.le
    obtain ⟨ll,hll⟩ : ∃ ll,ll = S.last.length := ⟨_,rfl⟩
    have HLL : Hid (ll = S.last.length) := hll
    rw [← hll] at hle
    have HF : Hid (S.freed = [] ∧ ∀ i,f i = 0) := ⟨hf',hz0⟩
    clear hB hf hf' hz0 hll
    go_wp2
    go_loopw [4,7] (fun bv iv wr2 => wr2 = wr ∧ ∃ i : Nat,iv = .int .i64 i ∧ i ≤ S.n ∧ ((bv = .int .i64 (-1) ∧ i ≤ ll) ∨ (bv = .int .i64 ll ∧ i = ll + 1))) (fun _ iv _ => S.n - (intOf iv).toNat)
    case atStart => exact ⟨rfl,0,rfl,Nat.zero_le _,.inl ⟨rfl,Nat.zero_le _⟩⟩
    case round =>
     obtain ⟨hw,i,rfl,hin,hcase⟩ := hrel
     subst hw
     rcases hcase with ⟨rfl,hil⟩ | ⟨rfl,rfl⟩
     ·by_cases hlt : i < S.n
      ·have c0 : World.cell? _ ⟨g,i * 3,none⟩ = some (.int .i64 ((S.last.getD i 0 / 1024 : Nat) : Int)) := HO.out.two.fcell i 0 hlt (by decide) _ (by omega)
       have hlt' : (i : Int) < (S.n : Int) := by omega
       by_cases hi2 : i < ll
       ·obtain ⟨x,hx⟩ : ∃ x,S.last[i]? = some x := ⟨_,List.getElem?_eq_getElem (by rw [← HLL.out]; exact hi2)⟩
        have hid := HS.out.1.id i x hx
        rw [getD_some hx] at c0
        obtain ⟨gn,hgn⟩ : ∃ gn,gn = x / 1024 := ⟨_,rfl⟩
        rw [← hgn] at c0
        have hgz : ((gn : Int) == 0) = false := by simp; omega
        have hgz2 : ¬ gn = 0 := by omega
        clear hx hid hgn
        go_wp2
        go_roundw
        case rel => exact ⟨by first | rfl | trivial,i + 1,by go_num,by omega,.inl ⟨rfl,by omega⟩⟩
        case measure => simp [intOf]; omega
       ·have EI : Hid (i = ll) := by show i = ll; omega
        rw [getD_none (by rw [← HLL.out]; omega),Nat.zero_div,Int.natCast_zero] at c0
        go_wp2
        go_roundw
        case rel => exact ⟨by first | rfl | trivial,i + 1,by go_num,by omega,.inr ⟨by rw [EI.out],by rw [EI.out]⟩⟩
        case measure => simp [intOf]; omega
      ·have HTK : Hid (S.take = (0,8,S)) := S.take_full HF.out.1 (by rw [← HLL.out]; omega)
       have hd : decide ((i : Int) < (S.n : Int)) = false := by simp; omega
       go_wp2
       go_ret2
       rw [HTK.out]
       exact ⟨rfl,f,HS.out.2,Own.ex_iff.2 ⟨(g,cp),HO.out⟩⟩
     ·have hl : S.last.length < S.n := by rw [← HLL.out]; omega
      have hll : ll < S.n := by omega
      have HTK : Hid (S.take = (S.first * 1024 + ll,0,S.more)) := by rw [HLL.out]; exact S.take_new HF.out.1 hl
      have HST : Hid (Stamp S.more f ck) := HS.out.2.more HS.out.1 hl
      have hf1 := HS.out.1.f1
      have hf2 : (S.first : Int) ≤ 4194303 := by have := HS.out.1.f2; omega
      have HON : Hid (flat 3 S.n (one S.more f) = (((flat 3 S.n (one S f)).set (ll * 3) (.int .i64 (S.first : Int))).set (ll * 3 + 1) (.bool true)).set (ll * 3 + 2) (.int .i64 0)) := by
       rw [HLL.out]; exact one_more S f HS.out.1.ul (by omega) (HF.out.2 _)
      have c0 : World.cell? _ ⟨g,ll * 3,none⟩ = some (.int .i64 ((S.last.getD ll 0 / 1024 : Nat) : Int)) := HO.out.two.fcell ll 0 hll (by decide) _ (by omega)
      rw [getD_none (by rw [← HLL.out]; omega),Nat.zero_div,Int.natCast_zero] at c0
      have c1 : World.cell? _ ⟨g,ll * 3 + 1,none⟩ = some (.bool (S.used.getD ll false)) := HO.out.two.fcell ll 1 hll (by decide) _ (by omega)
      have c2 : World.cell? _ ⟨g,ll * 3 + 2,none⟩ = some (.int .i64 (f ll : Int)) := HO.out.two.fcell ll 2 hll (by decide) _ (by omega)
      have y0 := HO.out.two.ffroz (ll * 3)
      have y1 := HO.out.two.ffroz (ll * 3 + 1)
      have y2 := HO.out.two.ffroz (ll * 3 + 2)
      have hll' : (ll : Int) < (S.n : Int) := by omega
      have hlb : decide ((ll : Int) < 0) = false := by simp
      have HM : Hid (∀ w',Calls Tryz.prog 162 #[.int .i64 (ll : Int),.int .i64 (S.first : Int)] w' fun e w'' => e = .returned (.tuple #[.int .u32 ((S.first * 1024 + ll : Nat) : Int),.int .i64 0]) ∧ w'' = w') := fun w' => rmake_yes ll S.first w' (by omega) hf1 hf2
      go_wp2_with (first | (go_at_call 162; refine (HM.out _).mono ?_; rintro e w' ⟨rfl,hw⟩; subst hw))
      go_ret2
      rw [HTK.out]
      refine ⟨rfl,f,HST.out,Own.ex_iff.2 ⟨(g,cp),?_⟩⟩
      have k := ((((HO.out.two.setR (ll * 3) (.int .i64 (S.first : Int))).setR (ll * 3 + 1) (.bool true)).setR (ll * 3 + 2) (.int .i64 0)).two)
      show Own w0 _ (Cells c #[.int .i64 (S.first : Int),.slice (some ⟨g,0,none⟩) S.n cp,.int .i64 (ck : Int)] 239 :: Row 255 3 (.slice (some ⟨g,0,none⟩) S.n cp) S.n (flat 3 S.n (one S.more f)) :: l)
      rw [HON.out]
      exact k
end Go.Proofs.YtogmdoiecpihdaaGreatDoor
namespace Go.Proofs.YtogmdoiecpihdaaGreatDoor
open Go.RowKit Go.Maps
set_option linter.unusedVariables false
set_option maxHeartbeats 4000000
set_option maxRecDepth 100000
def rpair (v : Nat → Value) (k : Nat) : Value := if k % 2 = 0 then .int .u8 ((k / 2 : Nat) : Int) else v (k / 2)
def rscells (bs : Nat) (v : Nat → Value) : Array Value := (Value.pointer (some ⟨bs,0,none⟩) :: (List.range 128).map (rpair v)).toArray
theorem rscells_size (bs : Nat) (v : Nat → Value) : (rscells bs v).size = 129 := by simp [rscells]
theorem rscells_ids (bs : Nat) (v : Nat → Value) : (rscells bs v)[0]? = some (.pointer (some ⟨bs,0,none⟩)) := by simp [rscells]
theorem rscells_at (bs : Nat) (v : Nat → Value) (k : Nat) (hk : k < 128) : (rscells bs v)[k + 1]? = some (rpair v k) := by simp [rscells,hk]
theorem rscells_m (bs : Nat) (v : Nat → Value) (k : Nat) (hk : k < 64) : (rscells bs v)[1 + k * 2]? = some (.int .u8 (k : Int)) := by
 rw [Nat.add_comm,rscells_at _ _ _ (by omega)]
 unfold rpair
 rw [if_pos (by omega),show k * 2 / 2 = k by omega]
theorem rscells_v (bs : Nat) (v : Nat → Value) (k : Nat) (hk : k < 64) : (rscells bs v)[1 + k * 2 + 1]? = some (v k) := by
 rw [show 1 + k * 2 + 1 = (k * 2 + 1) + 1 by omega,rscells_at _ _ _ (by omega)]
 unfold rpair
 rw [if_neg (by omega),show (k * 2 + 1) / 2 = k by omega]
theorem rscells_set (bs : Nat) (v : Nat → Value) (k : Nat) (hk : k < 64) (u : Value) : (rscells bs v).setIfInBounds (1 + k * 2 + 1) u = rscells bs (upd v k u) := by
 rw [show 1 + k * 2 + 1 = (k * 2 + 1) + 1 by omega]
 unfold rscells
 rw [List.setIfInBounds_toArray,List.set_cons_succ]
 have : ((List.range 128).map (rpair v)).set (k * 2 + 1) u = (List.range 128).map (rpair (upd v k u)) := by
  apply List.ext_getElem?
  intro i
  rw [List.getElem?_set]
  simp only [List.length_map,List.length_range,List.getElem?_map]
  by_cases c : k * 2 + 1 = i
  ·subst c
   rw [if_pos rfl,if_pos (by omega),List.getElem?_range (by omega)]
   show some u = some (rpair _ _)
   unfold rpair
   rw [if_neg (by omega),show (k * 2 + 1) / 2 = k by omega,upd_same]
  ·rw [if_neg c]
   by_cases d : i < 128
   ·rw [List.getElem?_range d]
    show some (rpair _ _) = some (rpair _ _)
    unfold rpair
    by_cases e : i % 2 = 0
    ·rw [if_pos e,if_pos e]
    ·rw [if_neg e,if_neg e,upd_other _ _ _ (by omega)]
   ·rw [List.getElem?_eq_none (by simp; omega)]; rfl
 rw [this]
def RTE (v : Value) (E : List REnt) : Thing := Ex (fun _ : Unit => Row 76 2 v E.length (cat rcells E) :: E.map rrow)
structure RX where
 bs : Nat
 v : Nat → Value
 f : Nat → Nat
 ck : Nat
 E : Nat → List REnt
def RTabsOn (is : List Nat) (v : Nat → Value) (E : Nat → List REnt) : Thing := Ex (fun _ : Unit => is.map (fun m => RTE (v m) (E m)))
def RSX (b : Nat) (S : St) (x : RX) : Thing := Ex (fun _ : Unit => [Cells b (rscells x.bs x.v) 186,RSlots x.bs S x.f x.ck,RTabsOn (List.range 64) x.v x.E])
structure RXok (σ : Sto) (x : RX) (K : Nat) : Prop where
 st : Stamp σ.S x.f x.ck
 ck : x.ck ≤ K
 E : ∀ m,m < 64 → (x.E m).map REnt.e = σ.T m
 len : ∀ m,m < 64 → (σ.T m).length ≤ K
def RSto (b : Nat) (σ : Sto) (K : Nat) : Thing := Ex (fun x : RX => [Fact (RXok σ x K),RSX b σ.S x])
section
variable {w0 w : World} {l : List Thing} {b k K : Nat} {v : Value} {E : List REnt} {L : List Ent} {S : St} {x : RX} {σ : Sto} {is : List Nat} {vv vv' : Nat → Value} {EE EE' : Nat → List REnt}
theorem RTE.iff : Own w0 w (RTE v E :: l) ↔ Own w0 w (Row 76 2 v E.length (cat rcells E) :: (E.map rrow ++ l)) :=
 ⟨fun h => by obtain ⟨_,h⟩ := Own.ex_iff.1 h; exact h,fun h => Own.ex_iff.2 ⟨(),h⟩⟩
theorem RTabsOn.pull (hk : k ∈ is) : Own w0 w (RTabsOn is vv EE :: l) ↔ Own w0 w (RTE (vv k) (EE k) :: RTabsOn (is.erase k) vv EE :: l) := by
 have hp : (is.map (fun m => RTE (vv m) (EE m))).Perm (RTE (vv k) (EE k) :: (is.erase k).map (fun m => RTE (vv m) (EE m))) := (List.perm_cons_erase hk).map (fun m => RTE (vv m) (EE m))
 constructor
 ·intro h
  obtain ⟨_,h⟩ := Own.ex_iff.1 h
  exact Own.ex2.2 ⟨(),h.perm (hp.append_right l)⟩
 ·intro h
  obtain ⟨_,h⟩ := Own.ex2.1 h
  exact Own.ex_iff.2 ⟨(),h.perm (hp.append_right l).symm⟩
theorem RTabsOn.congr (h : ∀ m ∈ is,vv m = vv' m ∧ EE m = EE' m) : RTabsOn is vv EE = RTabsOn is vv' EE' := by
 unfold RTabsOn
 have : is.map (fun m => RTE (vv m) (EE m)) = is.map (fun m => RTE (vv' m) (EE' m)) := List.map_congr_left (fun m hm => by rw [(h m hm).1,(h m hm).2])
 rw [this]
theorem RSX.iff : Own w0 w (RSX b S x :: l) ↔ Own w0 w (Cells b (rscells x.bs x.v) 186 :: RSlots x.bs S x.f x.ck :: RTabsOn (List.range 64) x.v x.E :: l) :=
 ⟨fun h => by obtain ⟨_,h⟩ := Own.ex_iff.1 h; exact h,fun h => Own.ex_iff.2 ⟨(),h⟩⟩
theorem RSto.opn (h : Own w0 w (RSto b σ K :: l)) : ∃ x,RXok σ x K ∧ Own w0 w (RSX b σ.S x :: l) := by
 obtain ⟨x,h⟩ := Own.ex_iff.1 h
 have h' : Own w0 w (Fact (RXok σ x K) :: RSX b σ.S x :: l) := h
 exact ⟨x,(Own.fact.1 h').1,(Own.fact.1 h').2⟩
theorem RSto.mk (hx : RXok σ x K) (h : Own w0 w (RSX b σ.S x :: l)) : Own w0 w (RSto b σ K :: l) := Own.ex_iff.2 ⟨x,Own.fact.2 ⟨hx,h⟩⟩
theorem RSX.out (h : Own w0 w (RSX b S x :: l)) (hk : k < 64) : Own w0 w (RTab b (1 + k * 2) (rscells x.bs x.v) k ((x.E k).map REnt.e) :: RSlots x.bs S x.f x.ck :: RTabsOn ((List.range 64).erase k) x.v x.E :: l) := by
 have h3 := RSX.iff.1 h
 have h4 := (RTabsOn.pull (k := k) (by simpa using hk)).1 h3.three
 have h5 := RTE.iff.1 h4
 have e : (rscells x.bs x.v).setIfInBounds (1 + k * 2 + 1) (x.v k) = rscells x.bs x.v := by
  rw [rscells_set _ _ _ hk]
  congr 1
  funext i
  by_cases c : i = k
  ·subst c; exact upd_same _ _ _
  ·exact upd_other _ _ _ c
 refine RTab.shut (v := x.v k) (E := x.E k) rfl ⟨rscells_m _ _ _ hk,by rw [rscells_size]; omega⟩ ?_
 rw [e]
 refine h5.perm ?_
 refine List.Perm.trans ?_ (List.Perm.swap _ _ _)
 refine List.Perm.cons _ ?_
 have : ((x.E k).map rrow ++ RTabsOn ((List.range 64).erase k) x.v x.E :: Cells b (rscells x.bs x.v) 186 :: RSlots x.bs S x.f x.ck :: l).Perm (Cells b (rscells x.bs x.v) 186 :: ((x.E k).map rrow ++ RTabsOn ((List.range 64).erase k) x.v x.E :: RSlots x.bs S x.f x.ck :: l)) := by
  have := List.perm_middle (a := Cells b (rscells x.bs x.v) 186) (l₁ := (x.E k).map rrow ++ [RTabsOn ((List.range 64).erase k) x.v x.E]) (l₂ := RSlots x.bs S x.f x.ck :: l)
  simpa using this
 refine this.trans (List.Perm.cons _ ((List.Perm.swap _ _ _).append_left _))
theorem RSX.into {bs ck : Nat} {f : Nat → Nat} (hk : k < 64) (h : Own w0 w (RTab b (1 + k * 2) (rscells bs vv) k L :: RSlots bs S f ck :: RTabsOn ((List.range 64).erase k) vv EE :: l)) :
  ∃ v' E',E'.map REnt.e = L ∧ Own w0 w (RSX b S ⟨bs,upd vv k v',f,ck,upd EE k E'⟩ :: l) := by
 obtain ⟨v',E',hE,h1⟩ := RTab.open h
 refine ⟨v',E',hE,RSX.iff.2 ?_⟩
 rw [rscells_set _ _ _ hk] at h1
 have h2 : Own w0 w (RTE v' E' :: RTabsOn ((List.range 64).erase k) vv EE :: Cells b (rscells bs (upd vv k v')) 186 :: RSlots bs S f ck :: l) := by
  refine RTE.iff.2 (h1.perm ?_)
  refine (List.Perm.swap _ _ _).trans ?_
  refine List.Perm.cons _ ?_
  have := List.perm_middle (a := Cells b (rscells bs (upd vv k v')) 186) (l₁ := E'.map rrow ++ [RTabsOn ((List.range 64).erase k) vv EE]) (l₂ := RSlots bs S f ck :: l)
  have h3 : (E'.map rrow ++ RTabsOn ((List.range 64).erase k) vv EE :: Cells b (rscells bs (upd vv k v')) 186 :: RSlots bs S f ck :: l).Perm (Cells b (rscells bs (upd vv k v')) 186 :: (E'.map rrow ++ RTabsOn ((List.range 64).erase k) vv EE :: RSlots bs S f ck :: l)) := by simpa using this
  refine List.Perm.trans (List.Perm.cons _ ((List.Perm.swap _ _ _).append_left _)) h3.symm
 have e1 : RTabsOn ((List.range 64).erase k) vv EE = RTabsOn ((List.range 64).erase k) (upd vv k v') (upd EE k E') := RTabsOn.congr (fun m hm => ⟨(upd_other _ _ _ (but_mem hm)).symm,(upd_other _ _ _ (but_mem hm)).symm⟩)
 rw [e1] at h2
 have h4 : Own w0 w (RTE (upd vv k v' k) (upd EE k E' k) :: RTabsOn ((List.range 64).erase k) (upd vv k v') (upd EE k E') :: Cells b (rscells bs (upd vv k v')) 186 :: RSlots bs S f ck :: l) := by rw [upd_same,upd_same]; exact h2
 have h5 := (RTabsOn.pull (k := k) (by simpa using hk)).2 h4
 refine h5.perm ?_
 exact (List.Perm.swap _ _ _).trans ((List.Perm.swap _ _ _).cons _)
theorem RXok.upd {v' : Value} {E' : List REnt} {mks : List Nat} (hx : RXok σ x K) (hk : k < 64) (hE : E'.map REnt.e = L) (hL : L.length ≤ K) : RXok ⟨σ.S,mks,Go.Proofs.YtogmdoiecpihdaaGreatDoor.upd σ.T k L⟩ ⟨x.bs,Go.Proofs.YtogmdoiecpihdaaGreatDoor.upd x.v k v',x.f,x.ck,Go.Proofs.YtogmdoiecpihdaaGreatDoor.upd x.E k E'⟩ K := by
 refine ⟨hx.st,hx.ck,fun m hm => ?_,fun m hm => ?_⟩
 ·by_cases c : m = k
  ·subst c; simp only [upd_same]; exact hE
  ·simp only [upd_other _ _ _ c]; exact hx.E m hm
 ·by_cases c : m = k
  ·subst c; simp only [upd_same]; exact hL
  ·simp only [upd_other _ _ _ c]; exact hx.len m hm
theorem RXok.mono {K' : Nat} (hx : RXok σ x K) (h : K ≤ K') : RXok σ x K' := ⟨hx.st,Nat.le_trans hx.ck h,hx.E,fun m hm => Nat.le_trans (hx.len m hm) h⟩
theorem Own.rstoK {K' : Nat} (h : K ≤ K') (hO : Own w0 w (RSto b σ K :: l)) : Own w0 w (RSto b σ K' :: l) := by
 obtain ⟨x,hx,hO⟩ := RSto.opn hO
 exact RSto.mk (hx.mono h) hO
end
def Whr (σ : Sto) (id m0 : Nat) : Prop := m0 ≤ 64 ∧ (∀ j,j < m0 → plc (σ.T j) id = none) ∧ (m0 < 64 → ∃ r,plc (σ.T m0) id = some r)
theorem whr_dead {σ : Sto} (h : σ.Ok) {id : Nat} (hl : σ.S.isLive id = false) : Whr σ id 64 := by
 refine ⟨Nat.le_refl _,fun j hj => (plc_none _ _).2 (fun e he q => ?_),fun h => by omega⟩
 have := (h.lv j hj e he).1
 rw [q,hl] at this
 cases this
theorem whr_live {σ : Sto} (h : σ.Ok) {id : Nat} (hl : σ.S.isLive id = true) : Whr σ id (σ.hom id) ∧ σ.hom id < 64 := by
 obtain ⟨m,hm,h1,r,h2⟩ := h.hm id hl
 have e : σ.hom id = m := gd_some h1
 rw [e]
 refine ⟨⟨by omega,fun j hj => (plc_none _ _).2 (fun d hd q => ?_),fun _ => ⟨r,h2⟩⟩,hm⟩
 have := (h.lv j (by omega) d hd).2
 rw [q,h1] at this
 have := Option.some.inj this
 omega
end Go.Proofs.YtogmdoiecpihdaaGreatDoor
