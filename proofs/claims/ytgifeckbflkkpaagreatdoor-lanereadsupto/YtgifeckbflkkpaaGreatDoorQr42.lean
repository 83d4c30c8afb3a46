/- The document's Open: a Step's content. -/
import Derived.Test.YtgifeckbflkkpaaGreatDoorQr30
import Derived.Test.YtgifeckbflkkpaaGreatDoorQr39
import Derived.Test.YtgifeckbflkkpaaGreatDoorQr26
import Derived.Test.YtgifeckbflkkpaaGreatDoorQr41
import Derived.Test.YtgifeckbflkkpaaGreatDoorQr07
import Derived.Test.YtgifeckbflkkpaaGreatDoorQr13
import Derived.Test.YtgifeckbflkkpaaGreatDoorQr05
import Derived.Test.YtgifeckbflkkpaaGreatDoorQr11
import Derived.Test.YtgifeckbflkkpaaGreatDoorQr15
namespace Go.Proofs.YtgifeckbflkkpaaGreatDoor
open Go.RowKit
set_option linter.unusedVariables false
set_option maxHeartbeats 16000000
set_option maxRecDepth 100000
theorem chRd_btw {W N : List EnE} (hc1 : fm 0 (evs W) = 0) (hc2 : fm 0 (evs N) = 0) (hIN : EIn N) : ∀ c ∈ (btw (evs W) (evs N)).chg,ChRd (evs W) c := fun c hcm => by
 rw [btw_dlt _ _ (Snap.of hc1).up (Snap.of hc2).up] at hcm
 obtain ⟨y,hy,hyc⟩ := List.mem_filterMap.1 hcm
 exact chRd_of hc1 hc2 hy (evs_ids hIN y hy) hyc
theorem dstep_in {W N : List EnE} {d : DlE} (hd : d.v = btw (evs W) (evs N)) (hIN : EIn N) (hc1 : fm 0 (evs W) = 0) (hc2 : fm 0 (evs N) = 0) (hW : esz W ≤ 400) (hN : esz N ≤ 400) : EIn d.M ∧ (∀ x ∈ d.H,x.lost < 256 ∧ (∀ q ∈ x.N,q.k < 256) ∧ (∀ q ∈ x.S,q.k < 256)) ∧ esz W + hsz d.H + esz d.M ≤ 40000 ∧ d.G.length ≤ 40000 ∧ d.H.length ≤ 40000 := by
 have hCR := chRd_btw hc1 hc2 hIN
 obtain ⟨a,b,c,e,f⟩ := btw_sz (evs W) (evs N)
 obtain ⟨m1,m2⟩ := btw_mem (evs W) (evs N)
 have cs := come_sz (evs W) (evs N)
 rw [← hd] at a b c e f cs m1 m2 hCR
 rw [evs_len] at a b c
 rw [cszV_evs] at e cs
 have hb : (evs d.M).length ≤ N.length := b
 have hcs : cszV (evs d.M) ≤ csz N := cs
 have hc : (chv d.H).length ≤ N.length := c
 have he : hszV (chv d.H) ≤ 2 * csz N := e
 have ha : d.G.length ≤ W.length := a
 rw [evs_len] at hb
 rw [cszV_evs] at hcs
 rw [chv_len] at hc
 rw [hszV_chv] at he
 unfold esz at hW hN
 have hI := (EIn.iff N).1 hIN
 refine ⟨(EIn.iff _).2 (fun x hx => hI x (m1 x hx)),fun x hx => ?_,by unfold esz; omega,by omega,by omega⟩
 have hxc : x.v ∈ d.v.chg := List.mem_map.2 ⟨x,hx,rfl⟩
 have h2 := f x.v hxc
 have h3 : x.v.lost = x.lost := rfl
 refine ⟨by omega,fun q hq => ?_,fun q hq => ?_⟩
 ·obtain ⟨n,hn,hq2⟩ := m2 x.v hxc q hq
  exact (hI n hn).2 q hq2
 ·have h4 := (hCR x.v hxc).gs.2 q hq
  omega
theorem ro_step (w0 W : World) (l : List Thing) (v0 v4 v7 : Value) (hd7 : Thing) (aw : Option Addr) (nw cw b : Nat) (P : List Nat) (th : Nat) (Wl N : List EnE) (R : List Bool) (HN : Hid ((bitsB P).drop th = dltB (evs Wl) (btw (evs Wl) (evs N)) ++ R ∧ (bitsB P).length ≤ 100000 ∧ th ≤ 8 * P.length ∧ fm 0 (evs Wl) = 0 ∧ fm 0 (evs N) = 0 ∧ EIn Wl ∧ EIn N ∧ esz Wl ≤ 400 ∧ esz N ≤ 400)) (HW : Hid ((∀ w',Own w0 w' (hd7 :: l) → EntsAt w' aw Wl) ∧ Wl.length = nw)) (H : Hid (SrcO w0 W b ((bitsB P).drop th) false (hd7 :: l))) (J K' : Act → World → Prop) (Q' : Exit → Act → World → Prop) (HJ : Hid (∀ a' wc,(∃ (ao : Option Addr) (cap : Nat) (M : List EnE) (sv : Value),a' = { tmps := #[v0,.slice aw nw cw,gQ a' 2,gQ a' 3,v4,gQ a' 5,gQ a' 6,v7,gQ a' 8,gQ a' 9,gQ a' 10,.pointer (some ⟨b,0,none⟩),.slice ao M.length cap,gQ a' 13,gQ a' 14,gQ a' 15,gQ a' 16,gQ a' 17,gQ a' 18,gQ a' 19,gQ a' 20,gQ a' 21,gQ a' 22,gQ a' 23,gQ a' 24,gQ a' 25,gQ a' 26,gQ a' 27,gQ a' 28,gQ a' 29,gQ a' 30,gQ a' 31,gQ a' 32,gQ a' 33,gQ a' 34,gQ a' 35,gQ a' 36,gQ a' 37,gQ a' 38,gQ a' 39,gQ a' 40,gQ a' 41,gQ a' 42,gQ a' 43,gQ a' 44,gQ a' 45,gQ a' 46,gQ a' 47,gQ a' 48,gQ a' 49,gQ a' 50,gQ a' 51,gQ a' 52,gQ a' 53,gQ a' 54,gQ a' 55,gQ a' 56,gQ a' 57,gQ a' 58,gQ a' 59,gQ a' 60,gQ a' 61,gQ a' 62,gQ a' 63,gQ a' 64,gQ a' 65,gQ a' 66,gQ a' 67,gQ a' 68,gQ a' 69,gQ a' 70,gQ a' 71,gQ a' 72,gQ a' 73,gQ a' 74,gQ a' 75,gQ a' 76,gQ a' 77,gQ a' 78,gQ a' 79,gQ a' 80,gQ a' 81,gQ a' 82,gQ a' 83,gQ a' 84,gQ a' 85,gQ a' 86,gQ a' 87,gQ a' 88,gQ a' 89,gQ a' 90,gQ a' 91,gQ a' 92,gQ a' 93,gQ a' 94,gQ a' 95,gQ a' 96,gQ a' 97,gQ a' 98,gQ a' 99,gQ a' 100,gQ a' 101,gQ a' 102,gQ a' 103,gQ a' 104,gQ a' 105,gQ a' 106,gQ a' 107,gQ a' 108,gQ a' 109,gQ a' 110,gQ a' 111,gQ a' 112,gQ a' 113,gQ a' 114,gQ a' 115,gQ a' 116,gQ a' 117,gQ a' 118,gQ a' 119,gQ a' 120,gQ a' 121,gQ a' 122,gQ a' 123,gQ a' 124,gQ a' 125,gQ a' 126,gQ a' 127,gQ a' 128,gQ a' 129,gQ a' 130,gQ a' 131,gQ a' 132,gQ a' 133,gQ a' 134,gQ a' 135,gQ a' 136,gQ a' 137,gQ a' 138,gQ a' 139,gQ a' 140,gQ a' 141,gQ a' 142,gQ a' 143,gQ a' 144,gQ a' 145,gQ a' 146,gQ a' 147,gQ a' 148,gQ a' 149,gQ a' 150,gQ a' 151,gQ a' 152,gQ a' 153,gQ a' 154,gQ a' 155,gQ a' 156,gQ a' 157,gQ a' 158,gQ a' 159,gQ a' 160,gQ a' 161,gQ a' 162,gQ a' 163,gQ a' 164,gQ a' 165,gQ a' 166,gQ a' 167,gQ a' 168,gQ a' 169,gQ a' 170,gQ a' 171,gQ a' 172,gQ a' 173,gQ a' 174,gQ a' 175,gQ a' 176,gQ a' 177,gQ a' 178,gQ a' 179,gQ a' 180,gQ a' 181,gQ a' 182,gQ a' 183,gQ a' 184,gQ a' 185,gQ a' 186,gQ a' 187,gQ a' 188,gQ a' 189,gQ a' 190,gQ a' 191,gQ a' 192,gQ a' 193,gQ a' 194,gQ a' 195,gQ a' 196,gQ a' 197,gQ a' 198,gQ a' 199,gQ a' 200,gQ a' 201,gQ a' 202,gQ a' 203,gQ a' 204,gQ a' 205,gQ a' 206,gQ a' 207,gQ a' 208,gQ a' 209,gQ a' 210,gQ a' 211,gQ a' 212,gQ a' 213,gQ a' 214,gQ a' 215,gQ a' 216,gQ a' 217,gQ a' 218,gQ a' 219,gQ a' 220,gQ a' 221,gQ a' 222,gQ a' 223,gQ a' 224,gQ a' 225],defers := [] } ∧ evs M = evs N ∧ Own w0 wc (EntsT ao cap M :: Cells b #[sv,.bool false] 95 :: hd7 :: l)) → J a' wc)) (hK' : ∀ a' w',Met J a' w' → K' a' w') (a' : Act) (hact : a' = { tmps := #[v0,.slice aw nw cw,gQ a' 2,gQ a' 3,v4,gQ a' 5,gQ a' 6,v7,gQ a' 8,gQ a' 9,gQ a' 10,.pointer (some ⟨b,0,none⟩),.slice none 0 0,gQ a' 13,gQ a' 14,gQ a' 15,gQ a' 16,gQ a' 17,gQ a' 18,gQ a' 19,gQ a' 20,gQ a' 21,gQ a' 22,gQ a' 23,gQ a' 24,gQ a' 25,gQ a' 26,gQ a' 27,gQ a' 28,gQ a' 29,gQ a' 30,gQ a' 31,gQ a' 32,gQ a' 33,gQ a' 34,gQ a' 35,gQ a' 36,gQ a' 37,gQ a' 38,gQ a' 39,gQ a' 40,gQ a' 41,gQ a' 42,gQ a' 43,gQ a' 44,gQ a' 45,gQ a' 46,gQ a' 47,gQ a' 48,gQ a' 49,gQ a' 50,gQ a' 51,gQ a' 52,gQ a' 53,gQ a' 54,gQ a' 55,.bool true,gQ a' 57,gQ a' 58,gQ a' 59,gQ a' 60,gQ a' 61,gQ a' 62,gQ a' 63,gQ a' 64,gQ a' 65,gQ a' 66,gQ a' 67,gQ a' 68,gQ a' 69,gQ a' 70,gQ a' 71,gQ a' 72,gQ a' 73,gQ a' 74,gQ a' 75,gQ a' 76,gQ a' 77,gQ a' 78,gQ a' 79,gQ a' 80,gQ a' 81,gQ a' 82,gQ a' 83,gQ a' 84,gQ a' 85,gQ a' 86,gQ a' 87,gQ a' 88,gQ a' 89,gQ a' 90,gQ a' 91,gQ a' 92,gQ a' 93,gQ a' 94,gQ a' 95,gQ a' 96,gQ a' 97,gQ a' 98,gQ a' 99,gQ a' 100,gQ a' 101,gQ a' 102,gQ a' 103,gQ a' 104,gQ a' 105,gQ a' 106,gQ a' 107,gQ a' 108,gQ a' 109,gQ a' 110,gQ a' 111,gQ a' 112,gQ a' 113,gQ a' 114,gQ a' 115,gQ a' 116,gQ a' 117,gQ a' 118,gQ a' 119,gQ a' 120,gQ a' 121,gQ a' 122,gQ a' 123,gQ a' 124,gQ a' 125,gQ a' 126,gQ a' 127,gQ a' 128,gQ a' 129,gQ a' 130,gQ a' 131,gQ a' 132,gQ a' 133,gQ a' 134,gQ a' 135,gQ a' 136,gQ a' 137,gQ a' 138,gQ a' 139,gQ a' 140,gQ a' 141,gQ a' 142,gQ a' 143,gQ a' 144,gQ a' 145,gQ a' 146,gQ a' 147,gQ a' 148,gQ a' 149,gQ a' 150,gQ a' 151,gQ a' 152,gQ a' 153,gQ a' 154,gQ a' 155,gQ a' 156,gQ a' 157,gQ a' 158,gQ a' 159,gQ a' 160,gQ a' 161,gQ a' 162,gQ a' 163,gQ a' 164,gQ a' 165,gQ a' 166,gQ a' 167,gQ a' 168,gQ a' 169,gQ a' 170,gQ a' 171,gQ a' 172,gQ a' 173,gQ a' 174,gQ a' 175,gQ a' 176,gQ a' 177,gQ a' 178,gQ a' 179,gQ a' 180,gQ a' 181,gQ a' 182,gQ a' 183,gQ a' 184,gQ a' 185,gQ a' 186,gQ a' 187,gQ a' 188,gQ a' 189,gQ a' 190,gQ a' 191,gQ a' 192,gQ a' 193,gQ a' 194,gQ a' 195,gQ a' 196,gQ a' 197,gQ a' 198,gQ a' 199,gQ a' 200,gQ a' 201,gQ a' 202,gQ a' 203,gQ a' 204,gQ a' 205,gQ a' 206,gQ a' 207,gQ a' 208,gQ a' 209,gQ a' 210,gQ a' 211,gQ a' 212,gQ a' 213,gQ a' 214,gQ a' 215,gQ a' 216,gQ a' 217,gQ a' 218,gQ a' 219,gQ a' 220,gQ a' 221,gQ a' 222,gQ a' 223,gQ a' 224,gQ a' 225],defers := [] }) : (csnd (cels (csnd (cinn (csnd (cfst (csnd (csnd (csnd (csnd (csnd (csnd (csnd ((Tryz.f15.body).getD .skip)))))))))))))).wp Tryz.prog (Exit.then K' Q') a' W := by
 have lW : (evs Wl).length ≤ 400 := by rw [evs_len]; have := HN.out.2.2.2.2.2.2.2.1; unfold esz at this; omega
 have lN : (evs N).length ≤ 400 := by rw [evs_len]; have := HN.out.2.2.2.2.2.2.2.2; unfold esz at this; omega
 have hc1 := HN.out.2.2.2.1
 have hc2 := HN.out.2.2.2.2.1
 have hIW := HN.out.2.2.2.2.2.1
 have hIN := HN.out.2.2.2.2.2.2.1
 have hG := dlGo_of hc1 hc2 (evs_ids hIW) (evs_ids hIN) (by omega) (by omega)
 have hCR := chRd_btw hc1 hc2 hIN
 have hS3 : (btw (evs Wl) (evs N)).gone.length ≤ 400 ∧ (btw (evs Wl) (evs N)).come.length ≤ 400 ∧ (btw (evs Wl) (evs N)).chg.length ≤ 400 := by
  rw [btw_dlt _ _ (Snap.of hc1).up (Snap.of hc2).up]
  have l1 := List.length_filter_le (fun e => (fstE (evs N) e.1).isNone) (evs Wl)
  have l2 := List.length_filter_le (fun e => (fstE (evs Wl) e.1).isNone) (evs N)
  have l3 := List.length_filterMap_le (chgO (evs Wl)) (evs N)
  refine ⟨?_,?_,?_⟩
  ·show ((((evs Wl).filter (fun e => (fstE (evs N) e.1).isNone)).map (·.1)).length) ≤ _
   rw [List.length_map]; omega
  ·show (((evs N).filter (fun e => (fstE (evs Wl) e.1).isNone)).length) ≤ _
   omega
  ·show (((evs N).filterMap (chgO (evs Wl))).length) ≤ _
   omega
 have HPT : Hid (rpat (evs Wl) (btw (evs Wl) (evs N)) = (0,evs N)) := pat_one (.inr (.inl ⟨hc1,rfl,hc2,rfl⟩))
 have HDI : Hid (∀ (d : DlE),d.v = btw (evs Wl) (evs N) → EIn d.M ∧ (∀ x ∈ d.H,x.lost < 256 ∧ (∀ q ∈ x.N,q.k < 256) ∧ (∀ q ∈ x.S,q.k < 256)) ∧ esz Wl + hsz d.H + esz d.M ≤ 40000 ∧ d.G.length ≤ 40000 ∧ d.H.length ≤ 40000) := fun d hd => dstep_in hd hIN hc1 hc2 HN.out.2.2.2.2.2.2.2.1 HN.out.2.2.2.2.2.2.2.2
 obtain ⟨D,hDe⟩ : ∃ D,D = btw (evs Wl) (evs N) := ⟨_,rfl⟩
 rw [← hDe] at hG hCR hS3 HPT HDI
 have hb0 := HN.out.1
 unfold dltB at hb0
 rw [← hDe] at hb0
 simp only [List.append_assoc] at hb0
 have hd1 := drop_next hb0 rfl
 have hd2 := drop_next hd1 rfl
 have hd3 := drop_next hd2 rfl
 have hd4 := drop_next hd3 rfl
 have hd5 := drop_next hd4 rfl
 have hPl := HN.out.2.1
 have hsz : ∀ s,((bitsB P).drop s).length ≤ 100000 := fun s => by rw [List.length_drop]; omega
 have HGN : Hid (D.gone.length = D.gone.length ∧ D.gone.Pairwise (· < ·) ∧ (∀ i ∈ D.gone,0 < i ∧ i < 4294967296) ∧ (bitsB P).drop (th + (var D.gone.length).length) = idsB 0 D.gone ++ (var D.come.length ++ (entsB 0 D.come ++ (var D.chg.length ++ (chgsB (evs Wl) 0 D.chg ++ R)))) ∧ (bitsB P).length ≤ 100000) := ⟨rfl,hG.gu,hG.g1,hd1,hPl⟩
 have HFM : Hid (Calls _ _ _ _ _) := rform_any W aw nw cw Wl (HW.out.1 W H.out.own) HW.out.2 hIW (by have := HN.out.2.2.2.2.2.2.2.1; omega)
 rw [hc1] at HFM
 obtain ⟨u,hu⟩ : ∃ u : Nat → Value,∀ k,gQ a' k = u k := ⟨_,fun _ => rfl⟩
 simp only [hu] at hact
 clear hu
 subst hact
 dsimp only [cfst,csnd,cinn,cthn,cels,Tryz.f15,Option.getD]
 go_wp2_with fail
 refine HFM.out.mono ?_
 rintro e w1 ⟨rfl,hf1⟩
 have h1 := (H.out.quiet hf1).allocC #[.slice none 0 0,.slice none 0 0,.slice none 0 0] 106
 have HCN : Hid (Calls _ _ _ _ _) := scount w0 _ _ b _ ((bitsB P).drop (th + (var D.gone.length).length)) false h1 D.gone.length (by omega) (by rw [hd1]; exact hb0) (hsz _)
 have HUW : Hid (Upe (evs Wl)) := (Snap.of hc1).up
 have HWC : Hid (nw ≤ 100000 ∧ ∀ x ∈ Wl,x.C.length ≤ 100000 ∧ x.C.Pairwise (fun x y => x.k < y.k) ∧ ∀ q ∈ x.C,q.k < 256) := by
  refine ⟨by rw [← HW.out.2,← evs_len]; omega,fun x hx => ?_⟩
  obtain ⟨-,h2,-⟩ := fm_each hc1 (x.id,x.C) (List.mem_map.2 ⟨x,hx,rfl⟩)
  have hg2 := good_of h2
  have h3 := csz_mem hx
  have h4 := HN.out.2.2.2.2.2.2.2.1
  unfold esz at h4
  exact ⟨by omega,hg2.1,fun q hq => by have := hg2.2 q hq; omega⟩
 have HDD : Hid (th + (var D.gone.length).length + (idsB 0 D.gone).length ≤ 8 * P.length ∧ (bitsB P).drop (th + (var D.gone.length).length + (idsB 0 D.gone).length) = var D.come.length ++ (entsB 0 D.come ++ (var D.chg.length ++ (chgsB (evs Wl) 0 D.chg ++ R))) ∧ (bitsB P).drop (th + (var D.gone.length).length + (idsB 0 D.gone).length + (var D.come.length).length + (entsB 0 D.come).length) = var D.chg.length ++ (chgsB (evs Wl) 0 D.chg ++ R) ∧ (bitsB P).drop (th + (var D.gone.length).length + (idsB 0 D.gone).length + (var D.come.length).length + (entsB 0 D.come).length + (var D.chg.length).length) = chgsB (evs Wl) 0 D.chg ++ R ∧ (bitsB P).length ≤ 100000) := by
  refine ⟨?_,hd2,hd4,hd5,hPl⟩
  have h2 := congrArg List.length hb0
  have h3 := HN.out.2.2.1
  rw [List.length_drop,length_bitsB,List.length_append,List.length_append] at h2
  omega
 have HDP : Hid ((D.come.Pairwise (fun a b => a.1 < b.1)) ∧ (∀ x ∈ D.come,1024 ≤ x.1 ∧ lst (-1) x.2 = 0 ∧ un x.2 = false) ∧ (∀ x ∈ D.come,x.1 < 4294967296) ∧ (D.chg.map Chg.id).Pairwise (· < ·) ∧ ∀ c ∈ D.chg,ChRd (evs Wl) c) := by
  have hm := (btw_mem (evs Wl) (evs N)).1
  rw [← hDe] at hm
  exact ⟨hG.mu,fun x hx => fm_each hc2 x (hm x hx),fun x hx => evs_ids hIN x (hm x hx),hG.hu,hCR⟩
 have HSZ : Hid (D.gone.length ≤ 400 ∧ D.come.length ≤ 400 ∧ D.chg.length ≤ 400) := hS3
 have HDE : Hid (D = btw (evs Wl) (evs N)) := hDe
 clear hf1 HFM H h1 lW lN hc1 hc2 hIW hIN hG hCR hS3 hDe hb0 hd1 hd2 hd3 hd4 hd5 hPl hsz
 go_wp2_with fail
 refine HCN.out.mono ?_
 rintro e w2 ⟨rfl,h2⟩
 generalize w1.heap.size = bd at *
 have H2 : Hid (SrcO w0 w2 b _ false _) := h2
 obtain ⟨gl,hgl⟩ : ∃ gl,gl = D.gone.length := ⟨_,rfl⟩
 have HGL : Hid (D.gone.length = gl) := hgl.symm
 obtain ⟨ml,hml⟩ : ∃ ml,ml = D.come.length := ⟨_,rfl⟩
 have HML : Hid (D.come.length = ml) := hml.symm
 obtain ⟨cl,hcl⟩ : ∃ cl,cl = D.chg.length := ⟨_,rfl⟩
 have HCL : Hid (D.chg.length = cl) := hcl.symm
 clear h2 HCN
 rw [← hgl]
 clear hgl hml hcl
 go_upto_block 1 with fail
 rename_i KK hKK
 refine ro_gone w0 w2 (hd7 :: l) v0 v4 v7 aw nw cw b bd P _ D.gone _ gl (by have := HSZ.out.1; rw [HGL.out] at this; omega) ⟨HGL.out,HGN.out.2⟩ H2.out KK KK _ ?hm (fun _ _ h => h) _ ?ha
 case ha => rfl
 case hm =>
  intro a' w3 hm
  obtain ⟨ga,gc,hact,h3⟩ := hm
  obtain ⟨u3,hu⟩ : ∃ u3 : Nat → Value,∀ k,gQ a' k = u3 k := ⟨_,fun _ => rfl⟩
  simp only [hu] at hact
  clear hu
  subst hact
  obtain ⟨t1,ht1⟩ : ∃ t1,t1 = th + (var D.gone.length).length + (idsB 0 D.gone).length := ⟨_,rfl⟩
  rw [← ht1] at h3 HDD
  have HEN : Hid (Calls _ _ _ _ _) := sents w0 w3 _ b P t1 D.come _ HDD.out.2.2.2.2 HDD.out.1 h3 HDP.out.1 HDP.out.2.1 HDP.out.2.2.1 (by have := HSZ.out.2.1; omega) HDD.out.2.1
  rw [HML.out] at HEN HDD
  clear h3 H2 HGN ht1
  go_wp2_with fail
  refine HEN.out.mono ?_
  rintro e w4 ⟨ma,mc,rfl,M,hMl,hM,h4⟩
  obtain ⟨t2,ht2⟩ : ∃ t2,t2 = t1 + (var ml).length + (entsB 0 D.come).length := ⟨_,rfl⟩
  rw [← ht2] at h4 HDD
  have h4 := h4.mid
  have z1 := h4.fzH 1
  have y1 := h4.cellH 1
  simp at y1
  have h5 := h4.setH (by decide) 1 (.slice ma ml mc)
  simp at h5
  have HCN2 : Hid (Calls _ _ _ _ _) := scount w0 _ _ b _ ((bitsB P).drop (t2 + (var D.chg.length).length)) false h5 D.chg.length (by have := HSZ.out.2.2; omega) (by rw [HDD.out.2.2.2.1]; exact HDD.out.2.2.1) (by rw [List.length_drop]; have := HDD.out.2.2.2.2; omega)
  have HMM : Hid (M.length = ml ∧ evs M = D.come) := ⟨hMl,hM⟩
  rw [HCL.out] at HCN2
  clear h4 h5 hMl hM HEN ht2
  go_wp2_with fail
  refine HCN2.out.mono ?_
  rintro e w5 ⟨rfl,h6⟩
  have H6 : Hid (SrcO w0 w5 b _ false _) := h6
  clear h6 HCN2 z1 y1
  go_upto_block 3 with fail
  rename_i KK2 hKK2
  refine ro_chg w0 w5 (EntsT ma mc M :: Row 57 1 (.slice ga gl gc) gl (irow .u32 D.gone) :: hd7 :: l) v0 v4 v7 aw nw cw b bd P (.slice ga gl gc) (.slice ma ml mc) _ Wl D.chg R cl (by have := HSZ.out.2.2; rw [HCL.out] at this; omega) ⟨HCL.out,HDP.out.2.2.2.1,HDP.out.2.2.2.2,by rw [← HCL.out]; exact HDD.out.2.2.2.1,HDD.out.2.2.2.2⟩ ⟨fun w' hw => HW.out.1 w' hw.tail.tail,HW.out.2,HWC.out.1,HUW.out,HWC.out.2⟩ H6.out KK2 KK2 _ ?hm2 (fun _ _ h => h) _ ?ha2
  case ha2 => rfl
  case hm2 =>
   intro a' w6 hm
   obtain ⟨Hs,ha,hc,hact,hHl,hHv,h7⟩ := hm
   obtain ⟨u4,hu⟩ : ∃ u4 : Nat → Value,∀ k,gQ a' k = u4 k := ⟨_,fun _ => rfl⟩
   simp only [hu] at hact
   clear hu
   subst hact
   have p1 := h7.bad
   have c0 := h7.cellH 0
   have c1 := h7.cellH 1
   have c2 := h7.cellH 2
   simp at c0 c1 c2
   obtain ⟨sv,hO,-⟩ := h7
   have hO2 : Own w0 w6 (Cells b #[sv,.bool false] 95 :: ((Cells bd #[.slice ga gl gc,.slice ma ml mc,.slice ha cl hc] 106 :: hrow1 Hs ha hc :: hrows Hs) ++ (EntsT ma mc M :: grow1 D.gone ga gc :: hd7 :: l))) := by
    unfold hrow1 grow1
    rw [hHl,HGL.out]
    exact hO
   have hIN := HN.out.2.2.2.2.2.2.1
   have hdv : DlE.v ⟨D.gone,ga,gc,M,ma,mc,Hs,ha,hc⟩ = D := by unfold DlE.v; simp only [HMM.out.2,hHv]
   have hdi := HDI.out ⟨D.gone,ga,gc,M,ma,mc,Hs,ha,hc⟩ hdv
   have hpa := rpatch_any w0 w6 _ hO2 aw nw cw Wl ⟨D.gone,ga,gc,M,ma,mc,Hs,ha,hc⟩ (fun w' hw => (by
    have hT : Own w0 w' (DlE.things ⟨D.gone,ga,gc,M,ma,mc,Hs,ha,hc⟩ ++ (hd7 :: l)) := own_toThings (d := ⟨D.gone,ga,gc,M,ma,mc,Hs,ha,hc⟩) hw
    exact ⟨HW.out.1 w' (own_dropA hT),hT.dlAt⟩)) HW.out.2 HN.out.2.2.2.2.2.1 hdi.1 hdi.2.1 hdi.2.2.1 hdi.2.2.2.1 hdi.2.2.2.2
   rw [hdv,HPT.out] at hpa
   unfold DlE.vs at hpa
   simp only [HGL.out,HMM.out.1,hHl] at hpa
   have HPA : Hid (Calls _ _ _ _ _) := hpa
   clear hO hO2 hIN hdv hdi hpa hHl hHv H6
   go_wp2_with fail
   refine HPA.out.mono ?_
   rintro e w7 ⟨ao,cap,RR,rfl,hR,h8⟩
   have h9 := h8.two
   have z1 := h9.froz 1
   have y1 := h9.cell 1
   simp at y1
   have h10 := h9.setC 1 (.bool false)
   simp at h10
   have H10 : Hid (evs RR = evs N ∧ Own w0 (w7.setCell ⟨b,1,none⟩ (.bool false)) (Cells b #[sv,.bool false] 95 :: EntsT ao cap RR :: hd7 :: l)) := ⟨hR,own_dropA2 (A := Cells bd #[.slice ga gl gc,.slice ma ml mc,.slice ha cl hc] 106 :: hrow1 Hs ha hc :: (hrows Hs ++ [EntsT ma mc M,grow1 D.gone ga gc])) (by simpa using h10)⟩
   clear h8 h9 h10 hR HPA c0 c1 c2 p1
   go_wp2
   exact Met.intro (HJ.out _ _ ⟨ao,cap,RR,sv,rfl,H10.out.1,H10.out.2.two⟩)
theorem row_bytes {w : World} {base n : Nat} {v : Value} {P : List Nat} (h : w.ownsRow base 5 1 v n (vrow P)) (hn : P.length = n) : ∃ ao cap,v = .slice ao n cap ∧ BytesAt w ao P := by
 obtain ⟨ao,cap,rfl⟩ := row_any h
 refine ⟨ao,cap,rfl,?_⟩
 rcases Nat.eq_zero_or_pos n with h0 | h0
 ·exact .inl (List.eq_nil_of_length_eq_zero (by omega))
 ·obtain ⟨g,cp,hv,_⟩ := row_shape h h0
  obtain ⟨rfl,_,rfl⟩ := Value.slice.inj hv
  refine .inr ⟨g,0,rfl,fun j x hx => ?_⟩
  have hj := (List.getElem?_eq_some_iff.1 hx).1
  rw [Nat.zero_add,h.cellAt j (by omega),getElem?_vrow,hx]; rfl
theorem rpeek_ok (w0 w : World) (l : List Thing) (h : Own w0 w l) (ao : Option Addr) (n cap : Nat) (P : List Nat) (k c e tk s : Nat) (hk : k = 1 ∨ k = 2) (hR : Right k c e tk s) (L R : List Bool) (hL : L = headB k c e tk s ++ R) (hP : P = frm (pack L)) (hlen : (pack L).length ≤ 4096) (hin : In w ao n cap P) :
  Calls Tryz.prog 13 #[.slice ao n cap] w fun x w' => x = .returned (.tuple #[.agg (hvs k c e tk s),.int .i64 0]) ∧ Own w0 w' l := by
 have h1 := h.allocC #[.int .u8 0,.int .u8 0,.int .u32 0,.int .u32 0,.int .u32 0] 29
 obtain ⟨d,hd⟩ : ∃ d,d = (pack L).length := ⟨_,rfl⟩
 have hfo := frm_opens (pack L) d hd.symm
 rw [← hP] at hfo
 have hn : n = d + 4 := by
  have := congrArg List.length hP
  unfold frm at this
  rw [List.length_append,← hd,hin.eqn] at this
  have h4 : (le4 (crc (pack L))).length = 4 := rfl
  omega
 subst hn
 have hop := ropen_ok (w.alloc (.cells #[.int .u8 0,.int .u8 0,.int .u32 0,.int .u32 0,.int .u32 0] 29)) ao cap d P (hin.quiet ((Fr.refl _ _).alloc _)) (by omega) hfo.1
 rw [hfo.2] at hop
 have HOP : Hid (Calls _ _ _ _ _) := hop
 have HD : Hid (d = (pack L).length ∧ d ≤ 4096) := ⟨hd,by omega⟩
 have HH : Hid (∀ W b m Z,SrcO w0 W b (L ++ Z) false m → (L ++ Z).length ≤ 100000 → Calls Tryz.prog 43 #[.pointer (some ⟨b,0,none⟩)] W fun x w' => x = .returned (.agg (hvs k c e tk s)) ∧ SrcO w0 w' b (R ++ Z) false m) := fun W b m Z hW hZ => by
  have e1 : L ++ Z = headB k c e tk s ++ (R ++ Z) := by rw [hL,List.append_assoc]
  rcases hk with rfl | rfl
  ·exact shead1 w0 W m b c e tk s hR _ _ e1 hZ hW
  ·exact shead2 w0 W m b c e tk s hR _ _ e1 hZ hW
 have H1 : Hid (Own w0 _ _) := h1
 clear h h1 hop hfo hd hlen hin hP hL hk hR
 go_enter Tryz.func13,Tryz.ntmps13
 go_wp2_with fail
 refine HOP.out.mono ?_
 rintro x w2 ⟨v,rfl,hrow,hf2⟩
 have h2 := H1.out.quiet hf2
 obtain ⟨a2,c2,rfl,hba⟩ := row_bytes hrow HD.out.1.symm
 have HBI : Hid (Calls _ _ _ _ _) := rbits_any w2 a2 c2 d (pack L) hba HD.out.1.symm (pack_byte _) (by have := HD.out.2; omega)
 have H2 : Hid (Own w0 _ _) := h2
 clear HOP H1 hf2 h2 hrow hba
 generalize w.heap.size = b2 at *
 go_wp2_with fail
 refine HBI.out.mono ?_
 rintro x w3 ⟨vb,rfl,hbo,hf3⟩
 have h3 := H2.out.quiet hf3
 have hbs := hbo.bs
 have hlz : (bitsB (pack L)).length ≤ 100000 := by rw [length_bitsB]; have := HD.out; omega
 rw [bitsB_pack] at hbs hlz
 generalize List.replicate (8 * nb L.length - L.length) false = Z at *
 obtain ⟨a3,c3,rfl⟩ := hbs.shape
 have S3 : SrcO w0 (w3.alloc (.cells #[.slice a3 (L ++ Z).length c3,.bool false] 95)) w3.heap.size (L ++ Z) false _ := ⟨_,h3.allocC _ _,hbs.quiet ((Fr.refl _ _).alloc _)⟩
 have HHC : Hid (Calls _ _ _ _ _) := HH.out _ _ _ Z S3 hlz
 clear HBI H2 hf3 h3 hbo hbs hlz S3 HH
 generalize (L ++ Z).length = lz at *
 go_wp2_with fail
 refine HHC.out.mono ?_
 rintro x w4 ⟨rfl,S4⟩
 obtain ⟨v4,h4,-⟩ := S4
 generalize w3.heap.size = b at *
 unfold hvs
 have h5 := h4.allocC #[.int .u8 (k : Int),.int .u8 (c : Int),.int .u32 (e : Int),.int .u32 (tk : Int),.int .u32 (s : Int)] 29
 have q1 := h5.two.cell 1
 have j0 := h5.cell 0
 have j1 := h5.cell 1
 have j2 := h5.cell 2
 have j3 := h5.cell 3
 have j4 := h5.cell 4
 have z0 := h5.three.froz 0
 have z1 := h5.three.froz 1
 have z2 := h5.three.froz 2
 have z3 := h5.three.froz 3
 have z4 := h5.three.froz 4
 have x0 := h5.three.cell 0
 have x1 := h5.three.cell 1
 have x2 := h5.three.cell 2
 have x3 := h5.three.cell 3
 have x4 := h5.three.cell 4
 simp at q1 j0 j1 j2 j3 j4 x0 x1 x2 x3 x4
 have h6 := ((((h5.three.setC 0 (.int .u8 (k : Int))).setC 1 (.int .u8 (c : Int))).setC 2 (.int .u32 (e : Int))).setC 3 (.int .u32 (tk : Int))).setC 4 (.int .u32 (s : Int))
 simp only [List.setIfInBounds_toArray,List.set_cons_zero,List.set_cons_succ] at h6
 have H6 : Hid (Own w0 _ _) := h6
 clear h4 h5 h6 HHC
 go_wp2
 (try simp only [Exit.inBlock,Exit.then])
 refine bodyPost_ret (v := .tuple #[.agg #[.int .u8 (k : Int),.int .u8 (c : Int),.int .u32 (e : Int),.int .u32 (tk : Int),.int .u32 (s : Int)],.int .i64 0]) ?_ rfl ⟨rfl,H6.out.tail.tail.tail⟩
 rw [results_cell_tmp rfl]
 have r0 := H6.out.cell 0
 have r1 := H6.out.cell 1
 have r2 := H6.out.cell 2
 have r3 := H6.out.cell 3
 have r4 := H6.out.cell 4
 simp at r0 r1 r2 r3 r4
 go_simp
theorem kind_ok (w0 w : World) (l : List Thing) (h : Own w0 w l) (ao : Option Addr) (n cap : Nat) (P : List Nat) (k c e tk s : Nat) (hk : k = 1 ∨ k = 2) (hR : Right k c e tk s) (L R : List Bool) (hL : L = headB k c e tk s ++ R) (hP : P = frm (pack L)) (hlen : (pack L).length ≤ 4096) (hin : In w ao n cap P) :
  Calls Tryz.prog 33 #[.slice ao n cap] w fun x w' => x = .returned (.int .u8 (k : Int)) ∧ Own w0 w' l := by
 have HP : Hid (Calls _ _ _ _ _) := rpeek_ok w0 w l h ao n cap P k c e tk s hk hR L R hL hP hlen hin
 clear h hk hR hL hP hlen hin
 go_enter Tryz.func33,Tryz.ntmps33
 go_wp2_with fail
 refine HP.out.mono ?_
 rintro x w1 ⟨rfl,h1⟩
 unfold hvs
 have h2 := h1.allocC #[.int .u8 (k : Int),.int .u8 (c : Int),.int .u32 (e : Int),.int .u32 (tk : Int),.int .u32 (s : Int)] 29
 have j0 := h2.cell 0
 simp at j0
 have H2 : Hid (Own w0 _ _) := h2.tail
 clear h1 h2 HP
 go_wp2
 go_ret
 exact ⟨rfl,H2.out⟩
def BT (v : Value) (L : List Bool) : Thing := Row 4 1 v L.length (brow L)
theorem Own.bits {w0 w w' : World} {l : List Thing} {v : Value} {L : List Bool} (h : Own w0 w l) (hb : Bo w.heap.size w' v L) (hf : Fr Nobody w w') : Own w0 w' (BT v L :: l) :=
 h.new (BT v L) (fun j => v.ownBlock = some j) ⟨row_weak hb,fun _ => Iff.rfl⟩ hf (fun j hj => (World.ownsRow.lt hb j hj).1)
theorem Own.bs {w0 w : World} {l : List Thing} {v : Value} {L : List Bool} (h : Own w0 w (BT v L :: l)) : Bs w v L := Bs.of_row (Own.row h)
theorem rvarT (w0 w : World) (l : List Thing) (h : Own w0 w l) (v : Nat) (hv : v < 18446744073709551616) : Calls Tryz.prog 76 #[.int .u64 (v : Int)] w fun e w' => ∃ u,e = .returned u ∧ Own w0 w' (BT u (var v) :: l) := by
 refine (rvar_any w v hv).mono ?_
 rintro e w' ⟨u,rfl,hb,hf⟩
 exact ⟨u,rfl,h.bits hb hf⟩
theorem rinT (w0 w : World) (l : List Thing) (h : Own w0 w l) (n lo hi : Int) (d : Nat) (hd : n = lo + (d : Int)) (h0 : -9223372036854775808 ≤ lo) (h1 : hi ≤ 9223372036854775807) (ha : lo ≤ n) (hb : n ≤ hi) :
  Calls Tryz.prog 123 #[.int .i64 n,.int .i64 lo,.int .i64 hi] w fun e w' => ∃ u,e = .returned (.tuple #[u,.int .i64 0]) ∧ Own w0 w' (BT u (bitsN (wid lo hi) d) :: l) := by
 refine (rin_ok n lo hi d w hd h0 h1 ha hb).mono ?_
 rintro e w' ⟨u,rfl,hb,hf⟩
 exact ⟨u,rfl,h.bits hb hf⟩
theorem rputCT (w0 w : World) (l : List Thing) (h : Own w0 w l) (k : Nat) (hk : k < 256) (F : Nat → Int) (h0 : chk k F = 0) :
  Calls Tryz.prog 124 #[.agg (cmp k F)] w fun e w' => ∃ u,e = .returned (.tuple #[u,.int .i64 0]) ∧ Own w0 w' (BT u (cb k F (cnt k)) :: l) := by
 refine (rputC_ok w k hk F h0).mono ?_
 rintro e w' ⟨u,rfl,hb,hf⟩
 exact ⟨u,rfl,h.bits hb hf⟩
theorem rstepT (w0 w : World) (l : List Thing) (h : Own w0 w l) (k : Nat) (hk : k < 256) (F G : Nat → Int) (h1 : chk k F = 0) (h2 : chk k G = 0) :
  Calls Tryz.prog 81 #[.agg (cmp k F),.agg (cmp k G)] w fun e w' => ∃ u,e = .returned (.tuple #[u,.int .i64 0]) ∧ Own w0 w' (BT u (sbs k F G (cnt k)) :: l) := by
 refine (rstep_ok w k hk F G h1 h2).mono ?_
 rintro e w' ⟨u,rfl,hb,hf⟩
 exact ⟨u,rfl,h.bits hb hf⟩
theorem rputT (w0 w : World) (l : List Thing) (v : Value) (L : List Bool) (x n : Nat) (h : Own w0 w (BT v L :: l)) (hn : n ≤ 64) (hx : x < 2 ^ n) (hx2 : x < 18446744073709551616) (hl : L.length + n ≤ 1048576) :
  Calls Tryz.prog 78 #[v,.int .u64 x,.int .i64 n] w fun e w' => ∃ u,e = .returned (.tuple #[u,.int .i64 0]) ∧ Own w0 w' (BT u (L ++ bitsN n x) :: l) := by
 have hd : x / 2 ^ n = 0 := Nat.div_eq_of_lt hx
 refine (rput_main w v L (L ++ bitsN n x) 0 x n h.bs (by omega) hx2 hn (.inl ⟨hd,hl,rfl,rfl⟩)).mono ?_
 rintro e w' ⟨u,rfl,hR,hf⟩
 rcases hR with ⟨_,hb⟩ | ⟨hc,_⟩
 ·exact ⟨u,rfl,h.tail.bits hb hf⟩
 ·exact absurd rfl hc
theorem app_bits {w0 w : World} {l : List Thing} {ops : Array Oper} {rest : List Oper} {o : Oper} {a : Act} {Q : Exit → Act → World → Prop} (hgd : o.guard = none) (s x : Operand)
  (ho : o.op = .call { callee := .builtin .append,args := #[s,x],argTypes := #[75,75] }) (v u : Value) (L M : List Bool) (h : Own w0 w (BT u M :: BT v L :: l)) (hM0 : 0 < M.length) (hL : L.length + M.length ≤ 100000000)
  (hs : a.eval s = v) (hx : a.eval x = u)
  (hK : ∀ v' w',Own w0 w' (BT v' (L ++ M) :: l) → wpList Tryz.prog ops Q rest (a.put o.dst v') w') :
  wpList Tryz.prog ops Q (o :: rest) a w := by
 obtain ⟨i0,hi,hz0,hz1,hz2⟩ := info_parts Tryz.infoBool
 have hr : w.ownsRow 0 4 1 u M.length (brow M) := Own.row h
 obtain ⟨g,cap,rfl,_⟩ := row_shape hr hM0
 refine wpList_append_ours w hgd s x 75 ho 4 i0 (.bool false) 1 1 Tryz.underlying75 hi hz0 hz1 hz2 rfl (by decide) v L.length (brow L) hs (Own.row h.two) ⟨g,0,none⟩ M.length cap (brow M) hx (by rw [length_brow]; omega) (fun j u hu => hr.cells rfl j u hu) (one_brow M) hM0 (by unfold maxLen; omega) (by omega) ?_
 intro v' w' ho' hg' hn'
 have key : Own w0 w' (BT v' (L ++ M) :: BT (.slice (some ⟨g,0,none⟩) M.length cap) M :: l) := by
  refine Own.grow (show Own w0 w (Row 4 1 v L.length (brow L) :: BT (.slice (some ⟨g,0,none⟩) M.length cap) M :: l) from h.two) ?_ hg' ?_
  ·rw [brow_append,List.length_append]; exact ho'
  ·obtain ⟨g',cap',rfl,hx'⟩ := hn'
   intro k hk
   cases hk
   exact hx'
 exact hK v' w' key.two.tail
end Go.Proofs.YtgifeckbflkkpaaGreatDoor
