/- LaneReads: what was sent, kept by its tick; what kind of frame is sent. -/
import Derived.Test.YtgifeckbflkkpaaGreatDoorQr48
import Derived.Maps.RangeWalk
import Derived.Test.YtgifeckbflkkpaaGreatDoorQr26
import Derived.Test.YtgifeckbflkkpaaGreatDoorQr17
import Derived.Test.YtgifeckbflkkpaaGreatDoorQr23
import Derived.OpenShut
import Derived.Carry
import Derived.SevenTiedAt
import Derived.Deep.DeepHandedRow
import Derived.Test.YtgifeckbflkkpaaGreatDoorQr12
import Derived.Test.YtgifeckbflkkpaaGreatDoorQr07
import Derived.Test.YtgifeckbflkkpaaGreatDoorTie
import Derived.Test.YtgifeckbflkkpaaGreatDoorCards
import Derived.ProofKit
import Derived.LaidMore
import Derived.Stop.Joined
namespace Go.Proofs.YtgifeckbflkkpaaGreatDoor
open Go.RowKit Go.Maps
set_option linter.unusedVariables false
set_option maxHeartbeats 32000000
set_option maxRecDepth 100000
theorem wfu32R {n : Nat} (h : n < 4294967296) : (Lit.int .u32 (n : Int)).wf = true := by
 simp [Lit.wf,IntKind.min,IntKind.max,IntKind.signed,IntKind.bits]; omega
def tkK : Keys Tryz.prog 27 Nat where
 law := int_keyed Tryz.underlying27
 val := fun n => .int .u32 (n : Int)
 lit := fun n => .int .u32 (n : Int)
 ok := fun n => n < 4294967296
 of := fun h => keyOf_int_mk Tryz.underlying27 (wfu32R h)
 inv := by
  intro v l h
  obtain ⟨n,rfl,rfl,hw⟩ := Maps.keyOf_int_inv Tryz.underlying27 h
  have r : 0 ≤ n ∧ n ≤ 4294967295 := by simpa [Lit.wf,IntKind.min,IntKind.max,IntKind.signed,IntKind.bits] using hw
  obtain ⟨i,rfl⟩ := Int.eq_ofNat_of_zero_le r.1
  exact ⟨i,by omega,rfl,rfl⟩
 inj := by
  intro x y hx hy h
  have := (Lit.int.inj h).2
  omega
 key := fun _ => trivial
theorem zeroEnts (w : World) : (zeroValue 23).run Tryz.prog w = .ok (.slice none 0 0) w := by kernel_rfl
def smv (sm : Nat → Option HeE) (x : Nat) : Option Value := (sm x).map fun y => .slice y.ao y.L.length y.cap
structure SeI (w0 : World) (X : List Thing) (sm : Nat → Option HeE) (H : List HeE) : Prop where
 cs : ∀ W,Own w0 W X → ∀ t y,sm t = some y → EntsAt W y.ao y.L
 ok : ∀ t y,sm t = some y → EIn y.L ∧ esz y.L ≤ 400
 no : sm 0 = none
 li : ∀ y ∈ H,∃ z,sm y.t = some z ∧ evs z.L = evs y.L
theorem SeI.onto {w0 : World} {X Y : List Thing} {sm : Nat → Option HeE} {H : List HeE} (h : SeI w0 X sm H) (f : ∀ W,Own w0 W Y → Own w0 W X) : SeI w0 Y sm H := ⟨fun W hW => h.cs W (f W hW),h.ok,h.no,h.li⟩
theorem SeI.drop {w0 : World} {X : List Thing} {sm : Nat → Option HeE} {H : List HeE} (h : SeI w0 X sm H) (n : Nat) : SeI w0 X sm (H.drop n) := ⟨h.cs,h.ok,h.no,fun y hy => h.li y (List.mem_of_mem_drop hy)⟩
theorem SeI.put {w0 : World} {X : List Thing} {sm : Nat → Option HeE} {H : List HeE} (h : SeI w0 X sm H) {k T : Nat} {y z : HeE} (hT : T ≠ 0) (hlt : ∀ x ∈ H,x.t < T) (hyt : y.t = T) (hz : EIn z.L ∧ esz z.L ≤ 400) (he : evs z.L = evs y.L) : SeI w0 (EntsT z.ao z.cap z.L :: X) (fun t => if t = T then some z else sm t) (putH k H y) where
 cs := fun W hW t u hu => by
  have hu : (if t = T then some z else sm t) = some u := hu
  split at hu
  ·cases hu; exact hW.entsAt
  ·exact h.cs W hW.tail t u hu
 ok := fun t u hu => by
  have hu : (if t = T then some z else sm t) = some u := hu
  split at hu
  ·cases hu; exact hz
  ·exact h.ok t u hu
 no := by
  show (if 0 = T then some z else sm 0) = none
  rw [if_neg (fun e => hT e.symm)]; exact h.no
 li := fun u hu => by
  show ∃ q,(if u.t = T then some z else sm u.t) = some q ∧ _
  rcases putH_mem hu with hu | rfl
  ·rw [if_neg (by have := hlt u hu; omega)]; exact h.li u hu
  ·rw [if_pos hyt]; exact ⟨z,rfl,he⟩
theorem SeI.base {w0 : World} {X : List Thing} {sm : Nat → Option HeE} {H : List HeE} (h : SeI w0 X sm H) (as_ : Bool) (at_ : Nat) : ∃ (aw : Option Addr) (cw : Nat) (Wl : List EnE),(smv sm (if (lbo H as_ at_).isSome = true then at_ else 0)).getD (.slice none 0 0) = .slice aw Wl.length cw ∧ (∀ W,Own w0 W X → EntsAt W aw Wl) ∧ EIn Wl ∧ esz Wl ≤ 400 ∧ ∀ x,lbo H as_ at_ = some x → x = (at_,evs Wl) := by
 cases hb : lbo H as_ at_ with
 | none =>
  refine ⟨none,0,[],?_,(fun W _ => entsAt_nil W),(fun x hx => by cases hx),(by unfold esz; simp [csz]),(fun x hx => by cases hx)⟩
  unfold smv
  rw [if_neg (by simp),h.no]; rfl
 | some x =>
  have hb0 := hb
  unfold lbo at hb
  split at hb
  ·cases hg : hget H at_ with
   | none => rw [hg] at hb; cases hb
   | some y =>
    rw [hg] at hb
    cases hb
    obtain ⟨hm,ht⟩ := hget_mem hg
    obtain ⟨z,hz,he⟩ := h.li y hm
    rw [ht] at hz
    refine ⟨z.ao,z.cap,z.L,?_,fun W hW => h.cs W hW at_ z hz,(h.ok at_ z hz).1,(h.ok at_ z hz).2,fun x hx => by cases hx; rw [he]⟩
    unfold smv
    rw [if_pos (by simp),hz]; rfl
  ·cases hb
theorem sealR_of {k c e t s : Nat} {W N : List En} (hI : HIn k c e t s) (h : secode k c e t s W N = 0) : SealR k c e t s W N 0 (sfr k c e t s W N) := by
 have h0 := h
 unfold secode at h
 by_cases h1 : hchk k c e t s = 0
 ·rw [if_neg (by omega)] at h
  by_cases h2 : ccode k W N = 0
  ·rw [if_neg (by omega)] at h
   by_cases h3 : nb (headB k c e t s ++ contB k W N).length ≤ 4096
   ·have hl : (sfr k c e t s W N).length ≤ 4100 := by unfold sfr; rw [length_frm,pack_len]; omega
    exact sealR_yes (frm_byte _ (pack_byte _)) h1 (right_of hI h1) h2 rfl hl
   ·rw [if_neg h3] at h; cases h
  ·rw [if_pos h2] at h; omega
 ·rw [if_pos h1] at h; omega
theorem sealR_w1 {c e t s : Nat} {W W' N : List En} {code : Nat} {P : List Nat} (h : SealR 1 c e t s W N code P) : SealR 1 c e t s W' N code P := h
theorem sent_kind {c e bud T at_ : Nat} {as_ : Bool} {H : List HeE} {N : List En} (hc : c < 256) (he : e < 4294967296) (hT : T < 4294967296) (ha : at_ < 4294967296) (hf : lfit c e bud T (lbo H as_ at_) N = true) : ∃ kq s W,((kq = 2 ∧ lbo H as_ at_ = some (s,W)) ∨ (kq = 1 ∧ s = 0)) ∧ HIn kq c e T s ∧ SealR kq c e T s W N 0 (lfrm c e bud T (lbo H as_ at_) N) := by
 have h1 : wfit 1 c e T 0 [] N bud = true → SealR 1 c e T 0 [] N 0 (wfr 1 c e T 0 [] N bud) := fun hw => by
  unfold wfr
  rw [if_pos hw]
  exact sealR_of ⟨by decide,hc,he,hT,by decide⟩ (of_decide_eq_true hw).1
 have hI1 : HIn 1 c e T 0 := ⟨by decide,hc,he,hT,by decide⟩
 cases hb : lbo H as_ at_ with
 | none =>
  rw [hb] at hf
  exact ⟨1,0,[],.inr ⟨rfl,rfl⟩,hI1,h1 (by unfold lfit at hf; simpa using hf)⟩
 | some x =>
  have hx : x.1 = at_ := by
   unfold lbo at hb
   split at hb
   ·cases hg : hget H at_ with
    | none => rw [hg] at hb; cases hb
    | some y => rw [hg] at hb; cases hb; rfl
   ·cases hb
  rw [hb] at hf
  by_cases hw : wfit 2 c e T x.1 x.2 N bud = true
  ·have hI : HIn 2 c e T x.1 := ⟨by decide,hc,he,hT,by omega⟩
   refine ⟨2,x.1,x.2,.inl ⟨rfl,rfl⟩,hI,?_⟩
   show SealR 2 c e T x.1 x.2 N 0 (if wfit 2 c e T x.1 x.2 N bud = true then _ else _)
   rw [if_pos hw]
   exact sealR_of hI (of_decide_eq_true hw).1
  ·refine ⟨1,0,[],.inr ⟨rfl,rfl⟩,hI1,?_⟩
   show SealR 1 c e T 0 [] N 0 (if wfit 2 c e T x.1 x.2 N bud = true then _ else _)
   rw [if_neg hw]
   refine h1 ?_
   unfold lfit at hf
   rw [Bool.or_eq_true] at hf
   rcases hf with hf | hf
   ·exact absurd hf hw
   ·exact hf
end Go.Proofs.YtgifeckbflkkpaaGreatDoor
namespace Go.Proofs.YtgifeckbflkkpaaGreatDoor
open Go.ChangeShapes Go.WideShapes Go.ChangeAt Go.RowKit Go.Deep
set_option linter.unusedVariables false
set_option maxHeartbeats 32000000
set_option maxRecDepth 100000
theorem cell_in4 {w w' : World} (h : Fr Nobody w w') {p : Addr} {v : Value} (hc : w.cell? p = some v) : w'.cell? p = some v := (h.cell (World.block_lt_of_cell? _ _ hc) (fun h => h)).trans hc
theorem LnI.onR {w0 : World} {X Y : List Thing} {k : Nat} {H : List HeE} {ss : Bool} {st : Nat} (h : LnI w0 X k H ss st) (f : ∀ W,Own w0 W Y → Own w0 W X) : LnI w0 Y k H ss st := ⟨fun W hW => h.cs W (f W hW),h.rk,h.ok,h.tk⟩
def RVb (W : World) (v : Value) (wc : World) : Prop := v = .bool false ∧ wc = W
theorem laneReads_fr (w : World) (ht : Tab w ∧ Tabf w) (k0 : Nat) (g0 : k0 < 256) (a1 : Option Addr) (len1 cap1 : Nat) (z1 : List LeE) (w1 : IsLents w a1 len1 cap1 z1) (hb1 : (z1.map (fun x => esz x.L)).sum ≤ 1048576) (a2 : Option Addr) (len2 cap2 : Nat) (z2 : List Nat) (w2 : In w a2 len2 cap2 z2) :
  Calls Tryz.prog 7 #[.int .u8 (k0 : Int),.slice a1 len1 cap1,.slice a2 len2 cap2] w fun e w' => e = .returned (.bool true) ∧ Fr Nobody w w' := by
 have HT : Hid (Tab w ∧ Tabf w) := ht
 have HAW : Hid (Calls _ _ _ _ _) := awake21 w ht.1 ht.2
 have HL1 : Hid (IsLents w a1 len1 cap1 z1) := w1
 have HB1 : Hid (∀ x ∈ z1,esz x.L ≤ 1048576) := fun x hx => Nat.le_trans (sum_le (fun x => esz x.L) hx) hb1
 have HL2 : Hid (In w a2 len2 cap2 z2) := w2
 have hl1 : len1 ≤ 9223372036854775807 := by have := w1.2.1; have := w1.2.2.1; unfold maxLen at this; omega
 obtain ⟨kk,hkk⟩ : ∃ kk : Nat,kk = 1 + k0 % 8 := ⟨_,rfl⟩
 have hke : (1 : Int) + (k0 : Int) % 8 = (kk : Int) := by rw [hkk]; push_cast; rfl
 have hk_1 : 1 ≤ kk := by omega
 have hk_2 : kk ≤ 8 := by omega
 clear ht w1 w2 hb1 hkk
 have hmm := fun w => @run_makeMap Tryz.prog 79 w
 go_enter Tryz.func7,Tryz.ntmps7
 go_wp2_with fail
 refine HAW.out.mono ?_
 rintro e wa ⟨rfl,hf⟩
 have HN : Hid (Calls _ _ _ _ _) := lnew w wa [] ((Own.start w).quiet hf) 2 7 (by decide) (by decide) kk 4100 hk_1 (by omega) (by decide) (by decide)
 clear hf HAW
 go_wp2_with fail
 refine HN.out.mono ?_
 rintro e wb ⟨b,rb,rfl,h1⟩
 have h2 := (h1.gmNew tkK)
 have H1 : Hid (Own w _ _) := h2
 clear HN h1 h2 g0 hke
 go_wp2
 generalize wb.heap.size = bm at *
 refine wp_loop (fun a' wr => ∃ (ss : Bool) (st : Nat) (as_ : Bool) (at_ : Nat) (H : List HeE) (X : List Thing) (sm : Nat → Option HeE) (nm sz i : Nat),a' = { tmps := #[gQ a' 0,gQ a' 1,.slice a2 len2 cap2,gQ a' 3,gQ a' 4,gQ a' 5,gQ a' 6,.pointer (some ⟨b,0,none⟩),gQ a' 8,.map (some bm),gQ a' 10,gQ a' 11,gQ a' 12,gQ a' 13,gQ a' 14,gQ a' 15,gQ a' 16,gQ a' 17,gQ a' 18,gQ a' 19,gQ a' 20,gQ a' 21,gQ a' 22,gQ a' 23,gQ a' 24,gQ a' 25,gQ a' 26,gQ a' 27,gQ a' 28,gQ a' 29,gQ a' 30,gQ a' 31,gQ a' 32,.slice a1 len1 cap1,.int .i64 (len1 : Int),.int .i64 (i : Int),gQ a' 36,gQ a' 37,gQ a' 38,gQ a' 39,gQ a' 40,gQ a' 41,gQ a' 42,gQ a' 43,gQ a' 44,gQ a' 45,gQ a' 46,gQ a' 47,gQ a' 48,gQ a' 49,gQ a' 50,gQ a' 51,gQ a' 52,gQ a' 53,gQ a' 54,gQ a' 55,gQ a' 56,gQ a' 57,gQ a' 58,gQ a' 59,gQ a' 60,gQ a' 61,gQ a' 62,gQ a' 63,gQ a' 64,gQ a' 65,gQ a' 66,gQ a' 67,gQ a' 68,gQ a' 69,gQ a' 70,gQ a' 71,gQ a' 72,gQ a' 73,gQ a' 74,gQ a' 75,gQ a' 76,gQ a' 77,gQ a' 78,gQ a' 79,gQ a' 80,gQ a' 81,gQ a' 82,gQ a' 83,gQ a' 84,gQ a' 85,gQ a' 86,gQ a' 87,gQ a' 88,gQ a' 89,gQ a' 90,gQ a' 91,gQ a' 92,gQ a' 93,gQ a' 94,gQ a' 95,gQ a' 96,gQ a' 97,gQ a' 98,gQ a' 99,gQ a' 100,gQ a' 101,gQ a' 102,gQ a' 103,gQ a' 104,gQ a' 105,gQ a' 106,gQ a' 107,gQ a' 108,gQ a' 109,gQ a' 110,gQ a' 111,gQ a' 112,gQ a' 113,gQ a' 114,gQ a' 115,gQ a' 116,gQ a' 117,gQ a' 118,gQ a' 119,gQ a' 120,gQ a' 121,gQ a' 122,gQ a' 123,gQ a' 124,gQ a' 125,gQ a' 126,gQ a' 127,gQ a' 128,gQ a' 129,gQ a' 130,gQ a' 131,gQ a' 132,gQ a' 133,gQ a' 134,gQ a' 135,gQ a' 136,gQ a' 137,gQ a' 138,gQ a' 139,gQ a' 140,gQ a' 141,gQ a' 142,gQ a' 143,gQ a' 144,gQ a' 145,gQ a' 146,gQ a' 147],defers := [] } ∧ i ≤ len1 ∧ i ≤ 20 ∧ st ≤ i ∧ at_ ≤ i ∧ nm ≤ i ∧ LnI w X kk H ss st ∧ SeI w X sm H ∧ Own w wr (Cells b (lc 2 7 4100 rb ss st as_ at_) 128 :: Ringe rb kk ((H).map HeE.r) :: GMap tkK bm nm sz (smv sm) :: X)) (fun a' _ => len1 - (intOf (a'.tmps.getD 35 undef)).toNat) ?_ ?_
 ·refine ⟨false,0,false,0,[],[],fun _ => none,0,0,0,rfl,Nat.zero_le _,Nat.zero_le _,Nat.le_refl _,Nat.le_refl _,Nat.le_refl _,⟨fun W hW x hx => (by cases hx),ROk.nil hk_1 (by omega),fun x hx => (by cases hx),fun x hx => (by cases hx)⟩,⟨fun W hW t y h => (by cases h),fun t y h => (by cases h),rfl,fun y hy => (by cases hy)⟩,?_⟩
  exact H1.out.sel 3 [1,2,0] (by decide)
 ·intro a' wr hI
  obtain ⟨ss,st,as_,at_,H,X,sm,nm,sz,i,hact,hi1,hi20,hst,hat,hnm,hln,hse,hO⟩ := hI
  obtain ⟨u,hu⟩ : ∃ u : Nat → Value,∀ k,gQ a' k = u k := ⟨_,fun _ => rfl⟩
  simp only [hu] at hact
  clear hu
  subst hact
  have HO : Hid (Own w wr (Cells b (lc 2 7 4100 rb ss st as_ at_) 128 :: Ringe rb kk ((H).map HeE.r) :: GMap tkK bm nm sz (smv sm) :: X)) := hO
  have HI : Hid (LnI w X kk H ss st ∧ SeI w X sm H) := ⟨hln,hse⟩
  clear H1 hln hse hO
  by_cases hlt : i < len1
  ·obtain ⟨x,hx⟩ : ∃ x,z1[i]? = some x := ⟨_,List.getElem?_eq_getElem (by rw [HL1.out.1]; exact hlt)⟩
   obtain ⟨g,o,hao,c0,hxe⟩ := HL1.out.at hx
   have hfr := HO.out.fr
   have c1 := cell_in4 hfr c0
   have HX : Hid (x ∈ z1 ∧ IsEnts w x.ao x.L.length x.cap x.L) := ⟨List.mem_of_getElem? hx,hxe⟩
   have hlt' : (i : Int) < (len1 : Int) := by omega
   subst hao
   clear hx c0 hxe
   by_cases h20 : 20 ≤ i
   ·have h20' : (20 : Int) ≤ (i : Int) := by omega
    have HF : Hid (Fr Nobody w wr) := hfr
    clear hfr HO
    go_wp2
    go_ret
    exact ⟨rfl,HF.out⟩
   ·have h20' : ¬ (20 : Int) ≤ (i : Int) := by omega
    obtain ⟨T,hTe⟩ : ∃ T : Nat,T = i + 1 := ⟨_,rfl⟩
    have HTI : Hid ((T : Int) = (i : Int) + 1) := by show _ = _; omega
    obtain ⟨xl,hxl⟩ : ∃ xl,x.L.length = xl := ⟨_,rfl⟩
    have HXL : Hid (x.L.length = xl) := hxl
    have HFW : Hid (Calls _ _ _ _ _) := few_any wr x.ao x.L.length x.cap x.L rfl (HX.out.2.ents.1.quiet hfr) (HB1.out x HX.out.1)
    obtain ⟨xa,xc,L⟩ := x
    simp only at c1 HX hxl HXL HFW
    rw [hxl] at c1 HFW
    clear hfr hxl
    by_cases h4 : esz L ≤ 400
    ·rw [decide_eq_true h4] at HFW
     have HRF : Hid (∀ W,Fr Nobody w W → Calls Tryz.prog 31 #[.slice xa xl xc] W fun e w' => e = .returned (.int .i64 ((fm 0 (evs L) : Nat) : Int)) ∧ Fr Nobody W w') := fun W hf => rform_any W xa xl xc L (HX.out.2.ents.1.quiet hf) HXL.out HX.out.2.ents.2 (by omega)
     have HZ : Hid (esz L ≤ 400) := h4
     clear h4
     go_wp2_with fail
     refine HFW.out.mono ?_
     rintro e w2 ⟨rfl,hf2⟩
     have h2 := HO.out.quiet hf2
     have HFC : Hid (Calls _ _ _ _ _) := HRF.out w2 h2.fr
     have H2 : Hid (Own w w2 _) := h2
     clear hf2 h2 HFW HRF HO
     obtain ⟨fx,hfx⟩ : ∃ fx,fx = fm 0 (evs L) := ⟨_,rfl⟩
     rw [← hfx] at HFC
     have HFX : Hid (fx = fm 0 (evs L)) := hfx
     clear hfx
     go_wp2_with fail
     refine HFC.out.mono ?_
     rintro e w3 ⟨rfl,hf3⟩
     have h3 := H2.out.quiet hf3
     clear hf3 HFC H2
     by_cases hx0 : fx = 0
     ·subst hx0
      have hb3 := lBase w w3 _ b 2 7 4100 rb kk st at_ ss as_ H HI.out.1.rk h3
      obtain ⟨aw,cw,Wl,hgw,hWE,hWI,hWZ,hWB⟩ := HI.out.2.base as_ at_
      obtain ⟨bb,hbb⟩ : ∃ bb,bb = (lbo H as_ at_).isSome := ⟨_,rfl⟩
      rw [← hbb] at hb3 hgw
      obtain ⟨bn,hbn⟩ : ∃ bn : Nat,bn = (if bb = true then at_ else 0) := ⟨_,rfl⟩
      rw [← hbn] at hb3 hgw
      have hbn32 : bn < 4294967296 := by rw [hbn]; split <;> omega
      have HBA : Hid (Calls _ _ _ _ _) := hb3
      have HWB : Hid ((smv sm bn).getD (.slice none 0 0) = .slice aw Wl.length cw ∧ (∀ W,Own w W X → EntsAt W aw Wl) ∧ EIn Wl ∧ esz Wl ≤ 400 ∧ (∀ x,lbo H as_ at_ = some x → x = (at_,evs Wl)) ∧ bb = (lbo H as_ at_).isSome ∧ bn = (if bb = true then at_ else 0) ∧ bn < 4294967296) := ⟨hgw,hWE,hWI,hWZ,hWB,hbb,hbn,hbn32⟩
      have hT0 : T < 4294967296 := by omega
      clear h3 hb3 hgw hWE hWI hWZ hWB hbb hbn hbn32
      go_wp2_with fail
      refine HBA.out.mono ?_
      rintro e w4 ⟨rfl,h4⟩
      have HTW : Hid (Calls _ _ _ _ _) := rtwins_any w w4 _ h4 xa xl xc L (fun w' hw => HX.out.2.ents.1.quiet hw.fr) HXL.out (by have := HZ.out; omega)
      clear h4 HBA
      go_wp2_with fail
      refine HTW.out.mono ?_
      rintro e w5 ⟨am,cm,rfl,M,hM1,hM2,h5⟩
      have hec := h5.entsCap
      have h5 : Own w w5 (Cells b (lc 2 7 4100 rb ss st as_ at_) 128 :: Ringe rb kk ((H).map HeE.r) :: EntsT am cm M :: GMap tkK bm nm sz (smv sm) :: X) := h5.sel 4 [1,2,0,3] (by decide)
      have hs : (ss && decide (T ≤ st)) = false := by
       rw [Bool.and_eq_false_iff]
       exact .inr (decide_eq_false (by omega))
      have HS : Hid (Calls _ _ _ _ _) := lsend w w5 HT.out.1 HT.out.2 _ b 2 7 4100 rb kk st at_ ss as_ H HI.out.1.rk HI.out.1.ok HI.out.1.tk (by decide) (by decide) (by decide) (by omega) h5 T hT0 am xl cm M (fun w' hw => ⟨hw.entsAt,fun x hx => HI.out.1.cs w' hw.tail.tail x hx⟩) hM1 (by omega) hec.2 (EIn.of_evs hM2 HX.out.2.ents.2) (by rw [esz_evs hM2]; exact HZ.out)
      rw [HTI.out] at HS
      have HM : Hid (fm 0 (evs M) = 0 ∧ evs M = evs L ∧ (ss && decide (T ≤ st)) = false) := ⟨by rw [hM2]; exact HFX.out.symm,hM2,hs⟩
      clear HTW h5 hec hM1 hM2 hs
      go_wp2_with fail
      refine HS.out.mono ?_
      rintro e w6 ⟨v,code,P,ss',st',put,y,rfl,hS,hyt,hyL,hyo,h6⟩
      clear HS
      rcases hS.two HM.out.2.2 HM.out.1 with ⟨hlf,rfl,rfl,rfl,htt,rfl⟩ | ⟨hlf,rfl,hP,rfl,htt,rfl⟩
      ·have htt := htt.symm
       subst htt
       obtain ⟨av,cv,rfl⟩ := row_any h6.row
       have H6 : Hid (Own w w6 (Cells b (lc 2 7 4100 rb true T as_ at_) 128 :: Ringe rb kk ((H).map HeE.r) :: GMap tkK bm nm sz (smv sm) :: EntsT am cm M :: X)) := (h6.tail).sel 4 [0,1,3,2] (by decide)
       have HLN : Hid (LnI w (EntsT am cm M :: X) kk H true T) := (HI.out.1.onR (fun W hW => hW.tail)).up HM.out.2.2
       have HSN : Hid (SeI w (EntsT am cm M :: X) sm H) := HI.out.2.onto (fun W hW => hW.tail)
       clear h6 hS hyt hyL hyo hlf
       go_wp2
       exact ⟨⟨true,T,as_,at_,H,_,sm,nm,sz,i + 1,(by first | exact ⟨rfl,rfl⟩ | exact ⟨⟨rfl,rfl⟩,rfl⟩ | rfl),by omega,by omega,by omega,by omega,by omega,HLN.out,HSN.out,H6.out⟩,by simp [intOf]; omega⟩
      ·have htt := htt.symm
       subst htt
       have hat32 : at_ < 4294967296 := by omega
       obtain ⟨kq,s,Wk,hkq,hHI,hSR⟩ := sent_kind (c := 2) (e := 7) (by decide) (by decide) hT0 hat32 hlf
       rw [← hP] at hSR
       have hkk12 : kq = 1 ∨ kq = 2 := by rcases hkq with ⟨h,_⟩ | ⟨h,_⟩ <;> omega
       have hSR2 : SealR kq 2 7 T s (evs Wl) (evs M) 0 P := by
        rcases hkq with ⟨rfl,hb⟩ | ⟨rfl,rfl⟩
        ·obtain ⟨rfl,rfl⟩ := Prod.mk.inj (HWB.out.2.2.2.2.1 _ hb)
         exact hSR
        ·exact sealR_w1 hSR
       have HKQ : Hid ((kq = 2 ∧ bb = true ∧ s = bn) ∨ kq = 1) := by
        rcases hkq with ⟨rfl,hb⟩ | ⟨rfl,rfl⟩
        ·have e1 : bb = true := by rw [HWB.out.2.2.2.2.2.1,hb]; rfl
         have e2 := (Prod.mk.inj (HWB.out.2.2.2.2.1 _ hb)).1
         exact .inl ⟨rfl,e1,by rw [HWB.out.2.2.2.2.2.2.1,if_pos e1]; exact e2⟩
        ·exact .inr rfl
       have hPp : 0 < P.length := by
        rw [(hSR.2.2.1 rfl).2.2.1,length_frm]; omega
       have hPb : ∀ x ∈ P,x < 256 := hSR.2.1
       obtain ⟨gp,cv,rfl,_⟩ := row_shape h6.row hPp
       have h6 : Own w w6 (Row 5 1 (.slice (some ⟨gp,0,none⟩) P.length cv) P.length (vrow P) :: Cells b (lc 2 7 4100 rb true T as_ at_) 128 :: Ringe rb kk ((putH kk H y).map HeE.r) :: EntsT y.ao y.cap y.L :: EntsT am cm M :: GMap tkK bm nm sz (smv sm) :: X) := h6
       have hlk := Own.gmAt (h6.sel 6 [5] (by decide)) Tryz.underlying79 (zeroEnts w6) bn HWB.out.2.2.2.2.2.2.2
       rw [HWB.out.1] at hlk
       obtain ⟨wl,hwl⟩ : ∃ wl,Wl.length = wl := ⟨_,rfl⟩
       obtain ⟨pl,hpl⟩ : ∃ pl,P.length = pl := ⟨_,rfl⟩
       rw [hwl] at hlk
       have hlk' : (Instr.lookup 79 (.map (some bm)) (.int .u32 (bn : Int)) false).run Tryz.prog w6 = .ok (.slice aw wl cw) w6 := hlk
       have hop := ropen20 w w6 HT.out.2 _ h6 (some ⟨gp,0,none⟩) P.length cv P rfl aw wl cw Wl M (fun w' hw => frame_in hw hPb) (fun w' hw => HWB.out.2.1 w' (hw.sel 6 [] (by decide))) hwl HWB.out.2.2.1 (EIn.of_evs HM.out.2.1 HX.out.2.ents.2) HWB.out.2.2.2.1 (by rw [esz_evs HM.out.2.1]; exact HZ.out) kq 2 7 T s hkk12 hHI hSR2
       rw [hpl,HTI.out] at hop
       have HOP : Hid (Calls _ _ _ _ _) := hop
       have HPL : Hid (P.length = pl) := hpl
       obtain ⟨hl2,hlt2⟩ := (HI.out.1.onR (Y := EntsT am cm M :: X) (fun W hW => hW.tail)).put (y := y) hyo (by rw [hyt]; exact HM.out.2.2) (by rw [hyt]; exact hT0)
       rw [hyt] at hl2 hlt2
       have HLP : Hid (LnI w (EntsT y.ao y.cap y.L :: EntsT am cm M :: X) kk (putH kk H y) true T ∧ (∀ x ∈ H,x.t < T) ∧ y.t = T ∧ evs y.L = evs M) := ⟨hl2,hlt2,hyt,hyL⟩
       rw [hpl]
       clear hS hlf hP hat32 hkq hSR hSR2 hPp h6 hlk hop hl2 hlt2 hyt hyL hyo hHI hwl hpl
       go_wp2_with fail
       refine HOP.out.mono ?_
       rintro e w7 ⟨ao,cap,M2,rfl,hMe,h7⟩
       have h8 := h7.allocC #[.int .u8 (kq : Int),.int .u8 2,.int .u32 7,.int .u32 ((i : Int) + 1),.int .u32 (s : Int)] 29
       obtain ⟨ml,hml⟩ : ∃ ml,M2.length = ml := ⟨_,rfl⟩
       rw [hml]
       have hse := sameEnts_any _ ao xa ml xl cap xc M2 L (Own.entsAt (h8.tail)) (HX.out.2.ents.1.quiet h8.fr) hml HXL.out (by rw [esz_evs (hMe.trans HM.out.2.1)]; have := HZ.out; omega) (by have := HZ.out; omega)
       rw [decide_eq_true (hMe.trans HM.out.2.1)] at hse
       have HSM : Hid (Calls _ _ _ _ _) := hse
       have H8 : Hid (Own w _ (Cells w7.heap.size #[.int .u8 (kq : Int),.int .u8 2,.int .u32 7,.int .u32 ((i : Int) + 1),.int .u32 (s : Int)] 29 :: EntsT ao cap M2 :: Row 5 1 (.slice (some ⟨gp,0,none⟩) pl cv) pl (vrow P) :: Cells b (lc 2 7 4100 rb true T as_ at_) 128 :: Ringe rb kk ((putH kk H y).map HeE.r) :: EntsT y.ao y.cap y.L :: EntsT am cm M :: GMap tkK bm nm sz (smv sm) :: X)) := h8
       clear h7 h8 hse HOP hlk' hMe hml
       go_wp2_with fail
       refine HSM.out.mono ?_
       rintro e w8 ⟨rfl,hf8⟩
       generalize w7.heap.size = bh at *
       have h9 := H8.out.quiet hf8
       have d0 := h9.cell 0
       have d1 := h9.cell 1
       have d2 := h9.cell 2
       have d3 := h9.cell 3
       have d4 := h9.cell 4
       simp at d0 d1 d2 d3 d4
       have H9 : Hid (Own w w8 (Cells b (lc 2 7 4100 rb true T as_ at_) 128 :: Ringe rb kk ((putH kk H y).map HeE.r) :: EntsT y.ao y.cap y.L :: EntsT am cm M :: GMap tkK bm nm sz (smv sm) :: X)) := h9.tail.tail.tail
       clear h9 H8 hf8 HSM
       go_upto_region 19 with (fail)
       go_cut [117] from 105 to 117 (RVb w8)
       case first =>
        rcases HKQ.out with ⟨rfl,rfl,rfl⟩ | rfl
        ·go_wp2
         go_meet
         case rel => exact ⟨rfl,rfl⟩
        ·go_wp2
         go_meet
         case rel => exact ⟨rfl,rfl⟩
       case rest =>
        obtain ⟨rfl,rfl⟩ := hcut
        have HTW : Hid (Calls _ _ _ _ _) := rtwins_any w wc _ H9.out xa xl xc L (fun w' hw => HX.out.2.ents.1.quiet hw.fr) HXL.out (by have := HZ.out; omega)
        clear H9 d0 d1 d2 d3 d4
        go_wp2_with fail
        refine HTW.out.mono ?_
        rintro e w9 ⟨a3,c3,rfl,M3,hN1,hN2,h10⟩
        obtain ⟨w10,hr,h11⟩ := Own.gmPut (h10.sel 6 [5,0,1,2,3,4] (by decide)) Tryz.underlying79 T (.slice a3 xl c3) hT0 (by unfold maxLen; omega)
        have hr' : (Instr.mapUpdate 79 (.map (some bm)) (.int .u32 ((i : Int) + 1)) (.slice a3 xl c3)).run Tryz.prog w9 = .ok () w10 := by rw [← HTI.out]; exact hr
        obtain ⟨sz2,hsz2⟩ : ∃ sz2,sz2 = (if (smv sm T).isSome = true then sz else sz + 1) := ⟨_,rfl⟩
        rw [← hsz2] at h11
        obtain ⟨sm2,hsm2⟩ : ∃ sm2 : Nat → Option HeE,sm2 = (fun t => if t = T then some ⟨T,a3,c3,M3⟩ else sm t) := ⟨_,rfl⟩
        have h12 := Own.gmIs (m := nm + 1) (q := smv sm2) h11 (Nat.le_refl _) (fun x _ => by
         rw [hsm2]
         unfold smv
         by_cases e : x = T
         ·simp [e,hN1]
         ·simp [e])
        have h13 : Own w w10 (Cells b (lc 2 7 4100 rb true T as_ at_) 128 :: Ringe rb kk ((putH kk H y).map HeE.r) :: GMap tkK bm (nm + 1) sz2 (smv sm2) :: EntsT a3 c3 M3 :: EntsT y.ao y.cap y.L :: EntsT am cm M :: X) := h12.sel 6 [2,3,0,1,4,5] (by decide)
        have HLN : Hid (LnI w (EntsT a3 c3 M3 :: EntsT y.ao y.cap y.L :: EntsT am cm M :: X) kk (putH kk H y) true T) := HLP.out.1.onR (fun W hW => hW.tail)
        have HSN : Hid (SeI w (EntsT a3 c3 M3 :: EntsT y.ao y.cap y.L :: EntsT am cm M :: X) sm2 (putH kk H y)) := by
         show SeI _ _ _ _
         rw [hsm2]
         exact (HI.out.2.onto (Y := EntsT y.ao y.cap y.L :: EntsT am cm M :: X) (fun W hW => hW.tail.tail)).put (k := kk) (z := ⟨T,a3,c3,M3⟩) (by omega) HLP.out.2.1 HLP.out.2.2.1 ⟨EIn.of_evs hN2 HX.out.2.ents.2,by rw [esz_evs hN2]; exact HZ.out⟩ (hN2.trans (HM.out.2.1.symm.trans HLP.out.2.2.2.symm))
        have h13f := h13.fr
        obtain ⟨H2,hH2⟩ : ∃ H2,H2 = putH kk H y := ⟨_,rfl⟩
        rw [← hH2] at h13 HLN HSN
        have H13 : Hid (Own w w10 _) := h13
        clear h10 hr h11 h12 h13 HTW hsz2 hsm2 hN1 hN2 hH2
        by_cases hi2 : i < len2
        ·have hi2' : (i : Int) < (len2 : Int) := by omega
         obtain ⟨q,hq⟩ : ∃ q,z2[i]? = some q := ⟨_,List.getElem?_eq_getElem (by rw [HL2.out.eqn]; exact hi2)⟩
         obtain ⟨g2,o2,hao2,cq⟩ : ∃ g2 o2,a2 = some ⟨g2,o2,none⟩ ∧ w.cell? ⟨g2,o2 + i,none⟩ = some (.int .u8 (q : Int)) := by
          rcases HL2.out.at' with h | ⟨g2,o2,h1,h2⟩
          ·rw [h] at hq; simp at hq
          ·exact ⟨g2,o2,h1,h2 i q hq⟩
         have cq' := cell_in4 h13f cq
         have hq256 := HL2.out.byt q (List.mem_of_getElem? hq)
         subst hao2
         clear hq cq h13f
         by_cases hod : q % 2 = 1
         ·have hod' : (q : Int) % 2 = 1 := by omega
          obtain ⟨t',ht'⟩ : ∃ t' : Nat,t' = T - q / 2 % 4 % T := ⟨_,rfl⟩
          have hmod : q / 2 % 4 % T < T := Nat.mod_lt _ (by omega)
          have HA : Hid (Calls _ _ _ _ _) := lack w w10 _ b 2 7 4100 rb kk T at_ true as_ H2 HLN.out.rk H13.out t' (by omega)
          have HTQ : Hid ((t' : Int) = ((i : Int) + 1 - (q : Int) / 2 % 4 % ((i : Int) + 1)) % 4294967296) := by
           show _ = _
           rw [← HTI.out]
           have e : ((q / 2 % 4 % T : Nat) : Int) = (q : Int) / 2 % 4 % (T : Int) := by push_cast; rfl
           rw [← e]
           rw [Int.emod_eq_of_lt (by omega) (by omega)]
           omega
          have ht'T : t' ≤ T := by omega
          rw [HTQ.out] at HA
          clear ht' hmod
          go_wp2_with fail
          refine HA.out.mono ?_
          rintro e w11 ⟨code3,as',at',n,rfl,hA,h14⟩
          have hat' : at' ≤ T := by
           rcases hA with ⟨_,_,_,_,rfl,_⟩ | ⟨_,_,_,_,rfl,_⟩ | ⟨_,_,_,_,rfl,_⟩
           ·omega
           ·omega
           ·exact ht'T
          have H14 : Hid (Own w w11 _) := h14
          clear hA h14 HA H13 ht'T
          go_wp2
          exact ⟨⟨true,T,as',at',_,_,sm2,nm + 1,sz2,i + 1,(by first | exact ⟨rfl,rfl⟩ | exact ⟨⟨rfl,rfl⟩,rfl⟩ | rfl),by omega,by omega,by omega,by omega,by omega,HLN.out.drop _,HSN.out.drop _,H14.out⟩,by simp [intOf]; omega⟩
         ·have hod' : ¬ (q : Int) % 2 = 1 := by omega
          clear hod
          go_wp2
          exact ⟨⟨true,T,as_,at_,H2,_,sm2,nm + 1,sz2,i + 1,(by first | exact ⟨rfl,rfl⟩ | exact ⟨⟨rfl,rfl⟩,rfl⟩ | rfl),by omega,by omega,by omega,by omega,by omega,HLN.out,HSN.out,H13.out⟩,by simp [intOf]; omega⟩
        ·have hi2' : ¬ (i : Int) < (len2 : Int) := by omega
         clear h13f
         go_wp2
         exact ⟨⟨true,T,as_,at_,H2,_,sm2,nm + 1,sz2,i + 1,(by first | exact ⟨rfl,rfl⟩ | exact ⟨⟨rfl,rfl⟩,rfl⟩ | rfl),by omega,by omega,by omega,by omega,by omega,HLN.out,HSN.out,H13.out⟩,by simp [intOf]; omega⟩
     ·have hx1 : ((fx : Int) != 0) = true := by simpa using hx0
      have H3 : Hid (Own w w3 _) := h3
      clear h3 hx0
      go_wp2
      exact ⟨⟨ss,st,as_,at_,H,X,sm,nm,sz,i + 1,(by first | exact ⟨rfl,rfl⟩ | exact ⟨⟨rfl,rfl⟩,rfl⟩ | rfl),by omega,by omega,by omega,by omega,by omega,HI.out.1,HI.out.2,H3.out⟩,by simp [intOf]; omega⟩
    ·rw [decide_eq_false h4] at HFW
     clear h4
     go_wp2_with fail
     refine HFW.out.mono ?_
     rintro e w2 ⟨rfl,hf2⟩
     have H2 : Hid (Own w w2 _) := HO.out.quiet hf2
     clear hf2 HFW HO
     go_wp2
     exact ⟨⟨ss,st,as_,at_,H,X,sm,nm,sz,i + 1,(by first | exact ⟨rfl,rfl⟩ | exact ⟨⟨rfl,rfl⟩,rfl⟩ | rfl),by omega,by omega,by omega,by omega,by omega,HI.out.1,HI.out.2,H2.out⟩,by simp [intOf]; omega⟩
  ·have hlt' : ¬ (i : Int) < (len1 : Int) := by omega
   have HF : Hid (Fr Nobody w wr) := HO.out.fr
   clear HO
   go_wp2
   go_ret
   exact ⟨rfl,HF.out⟩
end Go.Proofs.YtgifeckbflkkpaaGreatDoor
namespace Go.Proofs.YtgifeckbflkkpaaGreatDoor
open Go.ChangeShapes Go.WideShapes Go.ChangeAt Go.WideMaps Go.WideElems Go.RowKit
set_option linter.unusedVariables false
set_option maxHeartbeats 32000000
set_option maxRecDepth 100000
theorem gSteps : Tryz.prog.globalNamed "pinnace/frame.steps" = some 0 := by kernel_rfl
theorem tSteps : (Tryz.prog.globals[0]?).map (·.type) = some 218 := by kernel_rfl
theorem tbl_vals : (List.range 16).map tbl = [0,498536548,997073096,651767980,1994146192,1802195444,1303535960,1342533948,3988292384,4027552580,3604390888,3412177804,2607071920,2262029012,2685067896,3183342108] := by decide +kernel
theorem steps_at (i : Nat) (hi : i < 16) : ([DataW.lit (Lit.int IntKind.u32 0),DataW.lit (Lit.int IntKind.u32 498536548),DataW.lit (Lit.int IntKind.u32 997073096),DataW.lit (Lit.int IntKind.u32 651767980),DataW.lit (Lit.int IntKind.u32 1994146192),DataW.lit (Lit.int IntKind.u32 1802195444),DataW.lit (Lit.int IntKind.u32 1303535960),DataW.lit (Lit.int IntKind.u32 1342533948),DataW.lit (Lit.int IntKind.u32 3988292384),DataW.lit (Lit.int IntKind.u32 4027552580),DataW.lit (Lit.int IntKind.u32 3604390888),DataW.lit (Lit.int IntKind.u32 3412177804),DataW.lit (Lit.int IntKind.u32 2607071920),DataW.lit (Lit.int IntKind.u32 2262029012),DataW.lit (Lit.int IntKind.u32 2685067896),DataW.lit (Lit.int IntKind.u32 3183342108)] : List (DataW Unit))[i]? = some (DataW.lit (Lit.int IntKind.u32 ((tbl i : Nat) : Int))) := by
 have e : (tbl i) = ((List.range 16).map tbl)[i]?.getD 0 := by simp [hi]
 rw [e,tbl_vals]
 clear e
 match i,hi with
 | 0,_ => rfl
 | 1,_ => rfl
 | 2,_ => rfl
 | 3,_ => rfl
 | 4,_ => rfl
 | 5,_ => rfl
 | 6,_ => rfl
 | 7,_ => rfl
 | 8,_ => rfl
 | 9,_ => rfl
 | 10,_ => rfl
 | 11,_ => rfl
 | 12,_ => rfl
 | 13,_ => rfl
 | 14,_ => rfl
 | 15,_ => rfl
 | n + 16,h => exact absurd h (by omega)
theorem of_laidf {W : World} (h : laidMetH Tryz.prog laid1 W) : Tabf W := by
 rw [MakeChecks.laidMetH_plain _ _ _ (by kernel_rfl)] at h
 obtain ⟨ps,⟨g0,t0,cs0,f0,p0,q0,hg0,ht0,hv0,hd0,_,_⟩,_,_⟩ := h
 obtain rfl := Option.some.inj (gSteps.symm.trans hg0)
 obtain rfl := Option.some.inj (tSteps.symm.trans ht0)
 obtain ⟨xs,m1,rfl,hx1,hlen,hn3,hel⟩ := DataW.trod_array Tryz.underlying218 hd0
 have c3 : Tryz.prog.cellsOf 27 = 1 := by kernel_rfl
 have c24 : Tryz.prog.cellsOf 218 = 16 := by kernel_rfl
 simp only [Prod.mk.injEq,DataW.agg.injEq,Rows.laid_pinnace_frame_steps] at hx1
 intro i hi
 have h0 := hel i hi
 have hxi : xs[i]? = some xs[i] := List.getElem?_eq_getElem (by rw [hn3]; exact hi)
 obtain ⟨k,e1,e2,_⟩ := DataW.trod_int Tryz.underlying27 (h0.trans hxi)
 have hk : k = ((tbl i : Nat) : Int) := by
  have h1 := steps_at i hi
  rw [hx1.1,List.getElem?_map,hxi] at h1
  simp only [Option.map_some,Option.some.injEq] at h1
  rw [e2] at h1
  simpa using h1
 subst hk
 have := World.var?_cell hg0 hv0 i
 rw [this]
 rw [c3,Nat.mul_one] at e1
 have h2 : (List.take 1 (List.drop i cs0.toList))[0]? = some (Value.int IntKind.u32 ((tbl i : Nat) : Int)) := by rw [e1]; rfl
 rw [List.getElem?_take,if_pos (by decide),List.getElem?_drop,Nat.add_zero,Array.getElem?_toList] at h2
 exact h2
end Go.Proofs.YtgifeckbflkkpaaGreatDoor
