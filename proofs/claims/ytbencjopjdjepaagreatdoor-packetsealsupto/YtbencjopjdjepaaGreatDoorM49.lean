/-
  packet.Open of the frame that Seal answers.
-/
import Derived.Test.YtbencjopjdjepaaGreatDoorM48
import Derived.Test.YtbencjopjdjepaaGreatDoorM31
import Derived.Test.YtbencjopjdjepaaGreatDoorM09
import Derived.Test.YtbencjopjdjepaaGreatDoorM25
import Derived.Test.YtbencjopjdjepaaGreatDoorM18
import Derived.Test.YtbencjopjdjepaaGreatDoorM07
import Derived.Test.YtbencjopjdjepaaGreatDoorTie
import Derived.Test.YtbencjopjdjepaaGreatDoorCards
import Derived.ProofKit
import Derived.OpenShut
import Derived.LaidMore
import Derived.SevenTiedAt
import Derived.Stop.Joined
namespace Go.Proofs.YtbencjopjdjepaaGreatDoor
open Go.RowKit
set_option linter.unusedVariables false
set_option maxRecDepth 100000

theorem lst_mk {L : List Cp} : ∀ {p : Int}, L.Pairwise (fun x y => x.k < y.k) → (∀ q ∈ L, p < (q.k : Int) ∧ q.chk = 0) → lst p L = 0 := by
  induction L with
  | nil => intro p _ _; rfl
  | cons q t ih =>
    intro p h1 h2
    have h3 := List.pairwise_cons.1 h1
    have h4 := h2 q (List.mem_cons_self ..)
    rw [lst, if_neg (by rw [h4.2]; simp), if_neg (by omega)]
    exact ih h3.2 fun y hy => ⟨by have := h3.1 y hy; omega, (h2 y (List.mem_cons_of_mem _ hy)).2⟩
theorem lst_filter {C : List Cp} (h : lst (-1) C = 0) (p : Cp → Bool) : lst (-1) (C.filter p) = 0 := by
  have h1 := lst_ok h
  exact lst_mk (h1.1.filter p) fun q hq => h1.2 q (List.mem_filter.1 hq).1
theorem chRd_of {W N : List En} (hW : fm 0 W = 0) (hN : fm 0 N = 0) {e : En} (he : e ∈ N) (h32 : e.1 < 4294967296) {c : Chg} (h : chgO W e = some c) : ChRd W c := by
  have h1 := chOk_of hW hN he h32 h
  obtain ⟨y, hy, rfl⟩ := chgO_of h
  obtain ⟨-, b2, b3⟩ := fm_each hN e he
  exact ⟨h1, lst_filter b2 _, un_sub b3 (fun q hq => (List.mem_filter.1 hq).1), good_filter (good_of b2) _, un_sub b3 (fun q hq => (List.mem_filter.1 hq).1)⟩
theorem pat_yes' {W N R : List En} {d : Dl} {code : Nat} (hW : fm 0 W = 0) (hN : fm 0 N = 0) (hd : d = btw W N) (h : PatR W d code R) : code = 0 ∧ R = N := by
  rcases h with ⟨h, _⟩ | ⟨_, hc, h1, h2⟩ | ⟨_, _, _, h⟩
  · exact absurd hW h
  · exact ⟨hc, btw_inj (Snap.of hW) (Snap.of hN) (Snap.of h1) (h2.trans hd)⟩
  · exact absurd hd.symm (h N hN)
theorem evs_ids {L : List EnE} (hI : EIn L) : ∀ x ∈ evs L, x.1 < 4294967296 := fun x hx => by
  obtain ⟨y, hy, rfl⟩ := List.mem_map.1 hx
  exact (hI y hy).1
theorem evs_zz (X : List EnE) : (evs X).length + cszV (evs X) = esz X := by rw [evs_len, cszV_evs]; rfl
theorem rdall_k1 (w0 w : World) (ht : Tab w0) (l : List Thing) (b : Nat) (L : List Bool) (aw : Option Addr) (nw cw : Nat) (W N : List EnE) (h : Own w0 w (RdT b (pack L) 0 :: l)) (hIN : EIn N) (hzN : esz N ≤ 400) (c e tk s : Nat) (hR : Right 1 c e tk s) (hc : fm 0 (evs N) = 0) (hL : L = headB 1 c e tk s ++ (var (evs N).length ++ entsB 0 (evs N))) :
    Calls Tryz.prog 68 #[.agg #[.pointer (some ⟨b, 0, none⟩)], .slice aw nw cw] w fun x w' => ∃ ao cap, x = .returned (.agg #[.int .u8 1, .int .u8 (c : Int), .int .u32 (e : Int), .int .u32 (tk : Int), .int .u32 (s : Int), .slice ao N.length cap]) ∧ ∃ M : List EnE, evs M = evs N ∧ EIn M ∧ Own w0 w' (EntsT ao cap M :: l) := by
  have hb0 := bitsB_pack L
  have hE := atEnd_pack L
  generalize hz : List.replicate (8 * nb L.length - L.length) false = z0 at hb0
  clear hz
  have hd0 : (bitsB (pack L)).drop 0 = headB 1 c e tk s ++ (var (evs N).length ++ (entsB 0 (evs N) ++ z0)) := by
    rw [List.drop_zero, hb0, hL]; simp only [List.append_assoc]
  have hd1 := drop_next hd0 rfl
  have hlen : L.length = 0 + (headB 1 c e tk s).length + (var (evs N).length).length + (entsB 0 (evs N)).length := by
    rw [hL]; simp only [List.length_append]; omega
  rw [hlen] at hE
  have h1 := rdallW1 w0 w l b (pack L) 0 _ aw nw cw (evs N) h c e tk s hR _ hd0 hE (fun W X1 X2 X3 hW => by
    refine (rdsnap w0 W ht _ b (pack L) _ (evs N) z0 hW hc (evs_ids hIN) (by rw [evs_zz]; omega) hd1).mono ?_
    rintro x w' ⟨ao, cap, rfl, M, hMl, hM, hO⟩
    exact ⟨ao, cap, rfl, M, hM, eIn_of hM (evs_ids hIN) (fm_each hc), hO⟩)
  rw [evs_len] at h1
  exact h1
theorem rdall_k2 (w0 w : World) (ht : Tab w0) (l : List Thing) (b : Nat) (L : List Bool) (aw : Option Addr) (nw cw : Nat) (W N : List EnE) (h : Own w0 w (RdT b (pack L) 0 :: l)) (hQ : ∀ w', Own w0 w' l → EntsAt w' aw W) (hnw : W.length = nw) (hcw : nw ≤ cw) (hmw : cw ≤ 9223372036854775807) (hIW : EIn W) (hIN : EIn N) (hzW : esz W ≤ 400) (hzN : esz N ≤ 400) (c e tk s : Nat) (hR : Right 2 c e tk s) (hc1 : fm 0 (evs W) = 0) (hc2 : fm 0 (evs N) = 0) (hL : L = headB 2 c e tk s ++ dltB (evs W) (btw (evs W) (evs N))) :
    Calls Tryz.prog 68 #[.agg #[.pointer (some ⟨b, 0, none⟩)], .slice aw nw cw] w fun x w' => ∃ ao cap, x = .returned (.agg #[.int .u8 2, .int .u8 (c : Int), .int .u32 (e : Int), .int .u32 (tk : Int), .int .u32 (s : Int), .slice ao N.length cap]) ∧ ∃ M : List EnE, evs M = evs N ∧ EIn M ∧ Own w0 w' (EntsT ao cap M :: l) := by
  have hb0 := bitsB_pack L
  have hE := atEnd_pack L
  generalize hz : List.replicate (8 * nb L.length - L.length) false = z0 at hb0
  clear hz
  have lW : (evs W).length ≤ 400 := by rw [evs_len]; unfold esz at hzW; omega
  have lN : (evs N).length ≤ 400 := by rw [evs_len]; unfold esz at hzN; omega
  have hG := dlGo_of hc1 hc2 (evs_ids hIW) (evs_ids hIN) (by omega) (by omega)
  have hCR : ∀ c ∈ (btw (evs W) (evs N)).chg, ChRd (evs W) c := fun c hcm => by
    rw [btw_dlt _ _ (Snap.of hc1).up (Snap.of hc2).up] at hcm
    obtain ⟨y, hy, hyc⟩ := List.mem_filterMap.1 hcm
    exact chRd_of hc1 hc2 hy (evs_ids hIN y hy) hyc
  have hS3 : (btw (evs W) (evs N)).gone.length ≤ 400 ∧ (btw (evs W) (evs N)).come.length ≤ 400 ∧ (btw (evs W) (evs N)).chg.length ≤ 400 := by
    rw [btw_dlt _ _ (Snap.of hc1).up (Snap.of hc2).up]
    have l1 := List.length_filter_le (fun e => (fstE (evs N) e.1).isNone) (evs W)
    have l2 := List.length_filter_le (fun e => (fstE (evs W) e.1).isNone) (evs N)
    have l3 := List.length_filterMap_le (chgO (evs W)) (evs N)
    refine ⟨?_, ?_, ?_⟩
    · show ((((evs W).filter (fun e => (fstE (evs N) e.1).isNone)).map (·.1)).length) ≤ _
      rw [List.length_map]; omega
    · show (((evs N).filter (fun e => (fstE (evs W) e.1).isNone)).length) ≤ _
      omega
    · show (((evs N).filterMap (chgO (evs W))).length) ≤ _
      omega
  have hDD : ∀ (d : DlE) (w' : World) (l' : List Thing), d.v = btw (evs W) (evs N) → Own w0 w' (d.things ++ l') → DlOk d := fun d w' l' hd hO => dlOk_of hO hd hIN (by omega) (by omega)
  have hPP : ∀ code R, PatR (evs W) (btw (evs W) (evs N)) code R → code = 0 ∧ R = evs N := fun code R hp => pat_yes' hc1 hc2 rfl hp
  unfold dltB at hL
  generalize btw (evs W) (evs N) = D at *
  have hd0 : (bitsB (pack L)).drop 0 = headB 2 c e tk s ++ (var D.gone.length ++ (idsB 0 D.gone ++ (var D.come.length ++ (entsB 0 D.come ++ (var D.chg.length ++ (chgsB (evs W) 0 D.chg ++ z0)))))) := by
    rw [List.drop_zero, hb0, hL]; simp only [List.append_assoc]
  have hd1 := drop_next hd0 rfl
  have hlen : L.length = 0 + (headB 2 c e tk s).length + (var D.gone.length).length + (idsB 0 D.gone).length + (var D.come.length).length + (entsB 0 D.come).length + (var D.chg.length).length + (chgsB (evs W) 0 D.chg).length := by
    rw [hL]; simp only [List.length_append]; omega
  rw [hlen] at hE
  have h1 := rdallW2 w0 w l b (pack L) 0 _ aw nw cw (evs N) h c e tk s hR _ hd0 hE (fun W1 X1 X2 X3 hW1 => rdstep w0 W1 ht _ b (pack L) _ aw nw cw W D (evs N) z0 hW1 (fun w' hw => hQ w' hw.tail.tail.tail) hnw hcw hmw hIW (by omega) (Snap.of hc1).up hG.gu hG.g1 (by omega) hG.mu (fun x hx => ⟨(hG.mo x hx).1.1, (hG.mo x hx).1.2.2.1, (hG.mo x hx).1.2.2.2⟩) (fun x hx => (hG.mo x hx).1.2.1) (by omega) hG.hu hCR (by omega) hDD hPP hd1)
  rw [evs_len] at h1
  exact h1
theorem rdall_k3 (w0 w : World) (ht : Tab w0) (l : List Thing) (b : Nat) (L : List Bool) (aw : Option Addr) (nw cw : Nat) (h : Own w0 w (RdT b (pack L) 0 :: l)) (k c e tk s : Nat) (hR : Right k c e tk s) (k1 : k ≠ 1) (k2 : k ≠ 2) (hL : L = headB k c e tk s) :
    Calls Tryz.prog 68 #[.agg #[.pointer (some ⟨b, 0, none⟩)], .slice aw nw cw] w fun x w' => x = .returned (.agg #[.int .u8 (k : Int), .int .u8 (c : Int), .int .u32 (e : Int), .int .u32 (tk : Int), .int .u32 (s : Int), .slice none 0 0]) ∧ Own w0 w' l := by
  have hb0 := bitsB_pack L
  have hE := atEnd_pack L
  have hlen : L.length = 0 + (headB k c e tk s).length := by rw [hL]; omega
  refine rdall3W w0 w ht l b (pack L) 0 h k c e tk s aw nw cw hR k1 k2 _ (by rw [List.drop_zero, hb0, ← hL]) (by rw [← hlen]; exact hE)
theorem rdall_any (w0 w : World) (ht : Tab w0) (l : List Thing) (b : Nat) (L : List Bool) (aw : Option Addr) (nw cw : Nat) (W N : List EnE) (h : Own w0 w (RdT b (pack L) 0 :: l)) (hQ : ∀ w', Own w0 w' l → EntsAt w' aw W) (hnw : W.length = nw) (hcw : nw ≤ cw) (hmw : cw ≤ 9223372036854775807) (hIW : EIn W) (hIN : EIn N) (hzW : esz W ≤ 400) (hzN : esz N ≤ 400) (k c e tk s : Nat) (hR : Right k c e tk s) (hc : ccode k (evs W) (evs N) = 0) (hL : L = headB k c e tk s ++ contB k (evs W) (evs N)) :
    Calls Tryz.prog 68 #[.agg #[.pointer (some ⟨b, 0, none⟩)], .slice aw nw cw] w fun x w' => ∃ ao cap, x = .returned (.agg #[.int .u8 (k : Int), .int .u8 (c : Int), .int .u32 (e : Int), .int .u32 (tk : Int), .int .u32 (s : Int), .slice ao N.length cap]) ∧ ∃ M : List EnE, evs M = evs N ∧ EIn M ∧ Own w0 w' (EntsT ao cap M :: l) := by
  unfold ccode at hc
  unfold contB at hL
  by_cases k1 : k = 1
  · subst k1
    rw [if_pos rfl] at hc hL
    exact rdall_k1 w0 w ht l b L aw nw cw W N h hIN hzN c e tk s hR hc hL
  · rw [if_neg k1] at hc hL
    by_cases k2 : k = 2
    · subst k2
      rw [if_pos rfl] at hc hL
      obtain ⟨a1, a2⟩ := dcode_0 hc
      exact rdall_k2 w0 w ht l b L aw nw cw W N h hQ hnw hcw hmw hIW hIN hzW hzN c e tk s hR a1 a2 hL
    · rw [if_neg k2] at hc hL
      rw [List.append_nil] at hL
      refine (rdall_k3 w0 w ht l b L aw nw cw h k c e tk s hR k1 k2 hL).mono ?_
      rintro x w' ⟨rfl, hO⟩
      have hN0 : N.length = 0 := by
        by_cases hx : (evs N).length = 0
        · rw [evs_len] at hx; exact hx
        · rw [if_neg hx] at hc; cases hc
      have hN : N = [] := List.eq_nil_of_length_eq_zero hN0
      subst hN
      exact ⟨none, 0, rfl, [], rfl, (fun x hx => by cases hx), Own.ents (L := []) (hO.nilRow _ _)⟩
theorem popen_any (w0 w : World) (htb : Tab w0) (htf : Tabf w0) (l : List Thing) (h : Own w0 w l) (ap : Option Addr) (cp : Nat) (P : List Nat) (aw : Option Addr) (nw cw : Nat) (W N : List EnE) (hin : ∀ w', Own w0 w' l → In w' ap P.length cp P) (hQ : ∀ w', Own w0 w' l → EntsAt w' aw W) (hnw : W.length = nw) (hcw : nw ≤ cw) (hmw : cw ≤ 9223372036854775807) (hIW : EIn W) (hIN : EIn N) (hzW : esz W ≤ 400) (hzN : esz N ≤ 400) (k c e tk s : Nat) (hS : SealR k c e tk s (evs W) (evs N) 0 P) :
    Calls Tryz.prog 20 #[.slice ap P.length cp, .slice aw nw cw] w fun x w' => ∃ ao cap, x = .returned (.tuple #[.agg #[.int .u8 (k : Int), .int .u8 (c : Int), .int .u32 (e : Int), .int .u32 (tk : Int), .int .u32 (s : Int)], .slice ao N.length cap, .int .i64 0]) ∧ ∃ M : List EnE, evs M = evs N ∧ EIn M ∧ Own w0 w' (EntsT ao cap M :: l) := by
  obtain ⟨hR, hc, hP, hPl⟩ := hS.2.2.1 rfl
  have hlP : P.length = nb (headB k c e tk s ++ contB k (evs W) (evs N)).length + 4 := by rw [hP, length_frm, pack_len]
  rw [hlP] at hin hPl ⊢
  rw [hP] at hin
  exact popenW w0 w htb htf l h ap cp _ (headB k c e tk s ++ contB k (evs W) (evs N)) k c e tk s aw nw cw N.length (evs N) rfl (by omega) hin (fun W1 b X1 X2 X3 X4 X5 X6 X7 hO => rdall_any w0 W1 htb _ b _ aw nw cw W N hO (fun w' hw => hQ w' hw.tail.tail.tail.tail.tail.tail.tail) hnw hcw hmw hIW hIN hzW hzN k c e tk s hR hc rfl)
end Go.Proofs.YtbencjopjdjepaaGreatDoor

/-
  packet.Peek of a frame whose head is right.
-/
namespace Go.Proofs.YtbencjopjdjepaaGreatDoor
open Go.RowKit
set_option linter.unusedVariables false
set_option maxRecDepth 100000

set_option maxHeartbeats 400000 in
theorem catch_idleH (p : Addr) (w : World) :
    CallsD Tryz.prog 110 #[.pointer (some p)] .returning w fun e u' w' => e = .returned (.tuple #[]) ∧ u' = .returning ∧ w' = w := by
  refine callsD_of_wpS Tryz.func110 rfl fun c₀ cs hu => ?_
  apply wpS_seq
  apply wpS_region
  simp [wpOpsS, go_sem, recoverD, hu, Tryz.ntmps110, Exit.thenS]
  refine wpS_of_wp ?_
  go_wp2
  cases c₀
  simp_all [bodyPostS, results, Tryz.results110]
set_option maxHeartbeats 4000000 in
theorem peek1_ok (w0 w : World) (l : List Thing) (bb : Nat) (body : Value) (P : List Nat) (k c e tk s : Nat) (h : Own w0 w (Cells bb #[body] 29 :: l)) (hv : ∀ w', Own w0 w' l → Src w' body P.length (vrow P)) (hp : ∀ x ∈ P, x < 256) (hn : P.length ≤ 1048576)
    (t1 : Nat) (hall : ∀ W b l', Own w0 W (RdT b P 0 :: l') → Calls Tryz.prog 65 #[.agg #[.pointer (some ⟨b, 0, none⟩)]] W fun x w' => x = .returned (.agg #[.int .u8 (k : Int), .int .u8 (c : Int), .int .u32 (e : Int), .int .u32 (tk : Int), .int .u32 (s : Int)]) ∧ Own w0 w' (RdT b P t1 :: l')) :
    Calls Tryz.prog 63 #[.pointer (some ⟨bb, 0, none⟩)] w fun x w' => x = .returned (.agg #[.int .u8 (k : Int), .int .u8 (c : Int), .int .u32 (e : Int), .int .u32 (tk : Int), .int .u32 (s : Int)]) ∧ Own w0 w' (Cells bb #[body] 29 :: l) := by
  have h1 := h.allocC #[.int .u8 0, .int .u8 0, .int .u32 0, .int .u32 0, .int .u32 0] 24
  have HNR : Hid (∀ W, Own w0 W (Cells w.heap.size #[.int .u8 0, .int .u8 0, .int .u32 0, .int .u32 0, .int .u32 0] 24 :: Cells bb #[body] 29 :: l) → Calls Tryz.prog 64 #[body] W fun e w' => ∃ b, e = .returned (.agg #[.pointer (some ⟨b, 0, none⟩)]) ∧ Own w0 w' (RdT b P 0 :: Cells w.heap.size #[.int .u8 0, .int .u8 0, .int .u32 0, .int .u32 0, .int .u32 0] 24 :: Cells bb #[body] 29 :: l)) := fun W hW => newReader_ok w0 W _ hW body P (fun w' hw => hv w' hw.tail.tail) hp hn
  have HAL : Hid (∀ W b, Own w0 W (RdT b P 0 :: Cells w.heap.size #[.int .u8 0, .int .u8 0, .int .u32 0, .int .u32 0, .int .u32 0] 24 :: Cells bb #[body] 29 :: l) → Calls Tryz.prog 65 #[.agg #[.pointer (some ⟨b, 0, none⟩)]] W fun x w' => x = .returned (.agg #[.int .u8 (k : Int), .int .u8 (c : Int), .int .u32 (e : Int), .int .u32 (tk : Int), .int .u32 (s : Int)]) ∧ Own w0 w' (RdT b P t1 :: Cells w.heap.size #[.int .u8 0, .int .u8 0, .int .u32 0, .int .u32 0, .int .u32 0] 24 :: Cells bb #[body] 29 :: l)) := fun W b hW => hall W b _ hW
  have p0 := h1.two.cell 0
  simp at p0
  have HO : Hid (Own w0 _ _) := h1
  clear h h1 hv hp hn hall
  go_enter Tryz.func63, Tryz.ntmps63
  go_wp2_with fail
  refine (HNR.out _ HO.out).mono ?_
  rintro x w6 ⟨b, rfl, O6⟩
  generalize w.heap.size = bo at *
  have HA2 : Hid (Calls _ _ _ _ _) := HAL.out _ b O6
  clear HNR HAL HO O6 p0
  go_wp2_with fail
  refine HA2.out.mono ?_
  rintro x w7 ⟨rfl, O7x⟩
  have O7 := Own.tail O7x
  have f0 := O7.froz 0
  have r0 := O7.cell 0
  have f1 := O7.froz 1
  have r1 := O7.cell 1
  have f2 := O7.froz 2
  have r2 := O7.cell 2
  have f3 := O7.froz 3
  have r3 := O7.cell 3
  have f4 := O7.froz 4
  have r4 := O7.cell 4
  simp at r0 r1 r2 r3 r4
  have O8 := (((((O7.setC 0 (.int .u8 (k : Int))).setC 1 (.int .u8 (c : Int))).setC 2 (.int .u32 (e : Int))).setC 3 (.int .u32 (tk : Int))).setC 4 (.int .u32 (s : Int)))
  have H8 : Hid (Own w0 ((((((w7.setCell ⟨bo, 0, none⟩ (.int .u8 (k : Int))).setCell ⟨bo, 1, none⟩ (.int .u8 (c : Int))).setCell ⟨bo, 2, none⟩ (.int .u32 (e : Int))).setCell ⟨bo, 3, none⟩ (.int .u32 (tk : Int))).setCell ⟨bo, 4, none⟩ (.int .u32 (s : Int)))) (Cells bo #[.int .u8 (k : Int), .int .u8 (c : Int), .int .u32 (e : Int), .int .u32 (tk : Int), .int .u32 (s : Int)] 24 :: Cells bb #[body] 29 :: l)) := O8
  clear O7 O7x O8 HA2
  go_wp2
  (try simp only [Exit.inBlock, Exit.then])
  refine bodyPost_ret (results_cell_row rfl _ _ bo 24 #[.int .u8 (k : Int), .int .u8 (c : Int), .int .u32 (e : Int), .int .u32 (tk : Int), .int .u32 (s : Int)] _ _ rfl H8.out.obj Tryz.underlying24 rfl (by kernel_rfl)) rfl ?_
  exact ⟨rfl, H8.out.tail⟩
set_option maxHeartbeats 4000000 in
theorem caught_H (w0 w : World) (l : List Thing) (p1 : Value) (k c e tk s : Nat) (h : Own w0 w l)
    (hcl : ∀ W (X Y : Thing), Own w0 W (X :: Y :: l) → Calls Tryz.prog 63 #[p1] W fun x w' => x = .returned (.agg #[.int .u8 (k : Int), .int .u8 (c : Int), .int .u32 (e : Int), .int .u32 (tk : Int), .int .u32 (s : Int)]) ∧ Own w0 w' (X :: Y :: l)) :
    Calls Tryz.prog 62 #[.func (.func 63) #[] #[p1]] w fun x w' => x = .returned (.tuple #[.agg #[.int .u8 (k : Int), .int .u8 (c : Int), .int .u32 (e : Int), .int .u32 (tk : Int), .int .u32 (s : Int)], .int .i64 0]) ∧ Own w0 w' l := by
  have hmf : ∀ (fn : Fn) (first cap : Array Value) (w : World), (Instr.makeFunc fn first cap).run Tryz.prog w = .ok (.func fn first cap) w := fun _ _ _ _ => rfl
  have h1 := (h.allocC #[.int .u8 0, .int .u8 0, .int .u32 0, .int .u32 0, .int .u32 0] 24).allocC #[.int .i64 0] 30
  have s1 : (w.alloc (.cells #[.int .u8 0, .int .u8 0, .int .u32 0, .int .u32 0, .int .u32 0] 24)).heap.size = w.heap.size + 1 := Array.size_push _
  rw [s1] at h1
  have HC : Hid (Calls _ _ _ _ _) := hcl _ _ _ h1
  clear h h1 hcl s1
  go_enter_defers Tryz.func62, Tryz.ntmps62
  go_wp2_with fail
  refine HC.out.mono ?_
  rintro x w1 ⟨rfl, h2⟩
  generalize hbx : w.heap.size = bx at *
  clear hbx
  have f0 := h2.two.froz 0
  have r0 := h2.two.cell 0
  have f1 := h2.two.froz 1
  have r1 := h2.two.cell 1
  have f2 := h2.two.froz 2
  have r2 := h2.two.cell 2
  have f3 := h2.two.froz 3
  have r3 := h2.two.cell 3
  have f4 := h2.two.froz 4
  have r4 := h2.two.cell 4
  simp at r0 r1 r2 r3 r4
  have h3 : Own w0 ((((((w1.setCell ⟨bx, 0, none⟩ (.int .u8 (k : Int))).setCell ⟨bx, 1, none⟩ (.int .u8 (c : Int))).setCell ⟨bx, 2, none⟩ (.int .u32 (e : Int))).setCell ⟨bx, 3, none⟩ (.int .u32 (tk : Int))).setCell ⟨bx, 4, none⟩ (.int .u32 (s : Int)))) (Cells bx #[.int .u8 (k : Int), .int .u8 (c : Int), .int .u32 (e : Int), .int .u32 (tk : Int), .int .u32 (s : Int)] 24 :: Cells (bx + 1) #[.int .i64 0] 30 :: l) := ((((((h2.two.setC 0 (.int .u8 (k : Int))).setC 1 (.int .u8 (c : Int))).setC 2 (.int .u32 (e : Int))).setC 3 (.int .u32 (tk : Int))).setC 4 (.int .u32 (s : Int))))
  have g0 := h3.two.froz 0
  have g1 := h3.two.cell 0
  simp at g1
  have h4 : Own w0 (((((((w1.setCell ⟨bx, 0, none⟩ (.int .u8 (k : Int))).setCell ⟨bx, 1, none⟩ (.int .u8 (c : Int))).setCell ⟨bx, 2, none⟩ (.int .u32 (e : Int))).setCell ⟨bx, 3, none⟩ (.int .u32 (tk : Int))).setCell ⟨bx, 4, none⟩ (.int .u32 (s : Int)))).setCell ⟨bx + 1, 0, none⟩ (.int .i64 0)) (Cells (bx + 1) #[.int .i64 0] 30 :: Cells bx #[.int .u8 (k : Int), .int .u8 (c : Int), .int .u32 (e : Int), .int .u32 (tk : Int), .int .u32 (s : Int)] 24 :: l) := h3.two.setC 0 (.int .i64 0)
  have H4 : Hid (Own w0 _ _) := h4
  clear h2 h3 h4 HC
  go_wp2
  refine leaves_cons (f := 110) (args := #[.pointer (some ⟨bx + 1, 0, none⟩)]) (by simp) (by simp [go_sem]) ?_
  refine (catch_idleH ⟨bx + 1, 0, none⟩ _).mono ?_
  rintro x u' w'' ⟨rfl, rfl, rfl⟩
  generalize ((((((w1.setCell ⟨bx, 0, none⟩ (.int .u8 (k : Int))).setCell ⟨bx, 1, none⟩ (.int .u8 (c : Int))).setCell ⟨bx, 2, none⟩ (.int .u32 (e : Int))).setCell ⟨bx, 3, none⟩ (.int .u32 (tk : Int))).setCell ⟨bx, 4, none⟩ (.int .u32 (s : Int)))).setCell ⟨bx + 1, 0, none⟩ (.int .i64 0) = WW at H4 ⊢
  clear r0 r1 r2 r3 r4 f0 f1 f2 f3 f4 g0 g1
  have a0 := H4.out.cell 0
  have b0 := H4.out.two.cell 0
  have b1 := H4.out.two.cell 1
  have b2 := H4.out.two.cell 2
  have b3 := H4.out.two.cell 3
  have b4 := H4.out.two.cell 4
  simp at a0 b0 b1 b2 b3 b4
  simp [Leaves, settle, results, Tryz.results62, go_sem, a0, b0, b1, b2, b3, b4]
  exact H4.out.tail.tail
theorem perm_pk (X Y A B : Thing) {l : List Thing} : (A :: X :: Y :: B :: l).Perm (X :: Y :: A :: B :: l) := by
  have h1 : ([0, 1, 2, 3] : List Nat).Perm [1, 2, 0, 3] := by decide
  exact (h1.map (ix8 A X Y B B B B B)).append_right l
set_option maxHeartbeats 4000000 in
theorem ppeek_ok (w0 w : World) (htf : Tabf w0) (l : List Thing) (h : Own w0 w l) (ap : Option Addr) (cp d : Nat) (L : List Bool) (k c e tk s : Nat) (hR : Right k c e tk s) (R : List Bool) (hL : L = headB k c e tk s ++ R) (hd : nb L.length = d) (hd4 : d ≤ 4096) (hin : ∀ w', Own w0 w' l → In w' ap (d + 4) cp (frm (pack L))) :
    Calls Tryz.prog 19 #[.slice ap (d + 4) cp] w fun x w' => x = .returned (.tuple #[.agg #[.int .u8 (k : Int), .int .u8 (c : Int), .int .u32 (e : Int), .int .u32 (tk : Int), .int .u32 (s : Int)], .int .i64 0]) ∧ Own w0 w' l := by
  have hmf : ∀ (fn : Fn) (first cap : Array Value) (w : World), (Instr.makeFunc fn first cap).run Tryz.prog w = .ok (.func fn first cap) w := fun _ _ _ _ => rfl
  have hpl : (pack L).length = d := by rw [← hd]; simp [pack]
  have h1 := h.allocC #[.int .u8 0, .int .u8 0, .int .u32 0, .int .u32 0, .int .u32 0] 24
  obtain ⟨o1, o2⟩ := frm_opens (pack L) d hpl
  have hO := open_ok _ ap cp d (frm (pack L)) (hin _ h1.tail) hd4 (htf.quiet h1.fr) o1
  rw [o2] at hO
  have HO : Hid (Calls _ _ _ _ _) := hO
  have H1 : Hid (Own w0 _ _) := h1
  have HCL : Hid (∀ (bb bw : Nat) (v : Value) W (X Y : Thing), Own w0 W (X :: Y :: Cells bb #[v] 29 :: Row 5 1 v d (vrow (pack L)) :: Cells bw #[.int .u8 0, .int .u8 0, .int .u32 0, .int .u32 0, .int .u32 0] 24 :: l) → Calls Tryz.prog 63 #[.pointer (some ⟨bb, 0, none⟩)] W fun x w' => x = .returned (.agg #[.int .u8 (k : Int), .int .u8 (c : Int), .int .u32 (e : Int), .int .u32 (tk : Int), .int .u32 (s : Int)]) ∧ Own w0 w' (X :: Y :: Cells bb #[v] 29 :: Row 5 1 v d (vrow (pack L)) :: Cells bw #[.int .u8 0, .int .u8 0, .int .u32 0, .int .u32 0, .int .u32 0] 24 :: l)) := fun bb bw v W X Y hW => by
    refine (peek1_ok w0 W (X :: Y :: Row 5 1 v d (vrow (pack L)) :: Cells bw #[.int .u8 0, .int .u8 0, .int .u32 0, .int .u32 0, .int .u32 0] 24 :: l) bb v (pack L) k c e tk s (hW.perm (perm_pk X Y _ _).symm) (fun w' hw => by rw [hpl]; exact Src.of_row hw.three.row) (pack_byte L) (by rw [hpl]; omega) _ (fun W b l' hW' => rdhead w0 W l' b (pack L) 0 hW' k c e tk s hR _ (by rw [List.drop_zero, bitsB_pack, hL, List.append_assoc]))).mono ?_
    rintro x w' ⟨rfl, hw⟩
    exact ⟨rfl, hw.perm (perm_pk X Y _ _)⟩
  clear h h1 hO hin hR hL hd o1 o2 htf
  go_enter Tryz.func19, Tryz.ntmps19
  go_wp2_with fail
  refine HO.out.mono ?_
  rintro x w1 ⟨v, rfl, hr, hf, hk⟩
  obtain ⟨av, cv, rfl⟩ := row_any hr
  generalize hbw : w.heap.size = bw at *
  have h2 : Own w0 w1 (Row 5 1 (.slice av d cv) d (vrow (pack L)) :: Cells bw #[.int .u8 0, .int .u8 0, .int .u32 0, .int .u32 0, .int .u32 0] 24 :: l) := H1.out.new (Row 5 1 (.slice av d cv) d (vrow (pack L))) (fun j => (Value.slice av d cv).ownBlock = some j) ⟨hr, fun _ => Iff.rfl⟩ hf (fun j hj => hk j hj)
  have h3 := h2.allocC #[.slice av d cv] 29
  have HC : Hid (Calls _ _ _ _ _) := caught_H w0 _ _ (.pointer (some ⟨w1.heap.size, 0, none⟩)) k c e tk s h3 (HCL.out w1.heap.size bw (.slice av d cv))
  clear h2 h3 hr hf hk HO H1 HCL hbw
  go_wp2_with fail
  refine HC.out.mono ?_
  rintro x w2 ⟨rfl, h4⟩
  generalize w1.heap.size = bb at *
  have r0 := h4.three.cell 0
  have r1 := h4.three.cell 1
  have r2 := h4.three.cell 2
  have r3 := h4.three.cell 3
  have r4 := h4.three.cell 4
  simp at r0 r1 r2 r3 r4
  have f0 := h4.three.froz 0
  have f1 := h4.three.froz 1
  have f2 := h4.three.froz 2
  have f3 := h4.three.froz 3
  have f4 := h4.three.froz 4
  have H5 : Hid (Own w0 _ (Cells bw #[.int .u8 (k : Int), .int .u8 (c : Int), .int .u32 (e : Int), .int .u32 (tk : Int), .int .u32 (s : Int)] 24 :: Cells bb #[.slice av d cv] 29 :: Row 5 1 (.slice av d cv) d (vrow (pack L)) :: l)) := (((((h4.three.setC 0 (.int .u8 (k : Int))).setC 1 (.int .u8 (c : Int))).setC 2 (.int .u32 (e : Int))).setC 3 (.int .u32 (tk : Int))).setC 4 (.int .u32 (s : Int)))
  clear h4 HC
  go_wp2
  (try simp only [Exit.inBlock, Exit.then])
  obtain ⟨WW, hWW⟩ : ∃ WW, WW = (((((w2.setCell ⟨bw, 0, none⟩ (.int .u8 (k : Int))).setCell ⟨bw, 1, none⟩ (.int .u8 (c : Int))).setCell ⟨bw, 2, none⟩ (.int .u32 (e : Int))).setCell ⟨bw, 3, none⟩ (.int .u32 (tk : Int))).setCell ⟨bw, 4, none⟩ (.int .u32 (s : Int))) := ⟨_, rfl⟩
  rw [← hWW] at H5 ⊢
  clear hWW
  refine bodyPost_ret (v := .tuple #[.agg #[.int .u8 (k : Int), .int .u8 (c : Int), .int .u32 (e : Int), .int .u32 (tk : Int), .int .u32 (s : Int)], .int .i64 0]) ?_ rfl ⟨rfl, H5.out.tail.tail.tail⟩
  rw [results_cell_tmp rfl]
  have q0 := H5.out.cell 0
  have q1 := H5.out.cell 1
  have q2 := H5.out.cell 2
  have q3 := H5.out.cell 3
  have q4 := H5.out.cell 4
  simp at q0 q1 q2 q3 q4
  go_simp
theorem ppeek_any (w0 w : World) (htf : Tabf w0) (l : List Thing) (h : Own w0 w l) (ap : Option Addr) (cp : Nat) (P : List Nat) (W N : List En) (hin : ∀ w', Own w0 w' l → In w' ap P.length cp P) (k c e tk s : Nat) (hS : SealR k c e tk s W N 0 P) :
    Calls Tryz.prog 19 #[.slice ap P.length cp] w fun x w' => x = .returned (.tuple #[.agg #[.int .u8 (k : Int), .int .u8 (c : Int), .int .u32 (e : Int), .int .u32 (tk : Int), .int .u32 (s : Int)], .int .i64 0]) ∧ Own w0 w' l := by
  obtain ⟨hR, hc, hP, hPl⟩ := hS.2.2.1 rfl
  have hlP : P.length = nb (headB k c e tk s ++ contB k W N).length + 4 := by rw [hP, length_frm, pack_len]
  rw [hlP] at hin hPl ⊢
  rw [hP] at hin
  exact ppeek_ok w0 w htf l h ap cp _ (headB k c e tk s ++ contB k W N) k c e tk s hR _ rfl rfl (by omega) hin
end Go.Proofs.YtbencjopjdjepaaGreatDoor

/-
  Heads that come in; whether two lists are few.
-/
namespace Go.Proofs.YtbencjopjdjepaaGreatDoor
open Go.ChangeShapes Go.WideShapes Go.ChangeAt Go.WideMaps Go.WideElems Go.RowKit
set_option linter.unusedVariables false
set_option maxRecDepth 100000

theorem cellsHead : Tryz.prog.cellsOf 24 = 5 := by kernel_rfl
theorem cellsU32h : Tryz.prog.cellsOf 22 = 1 := by kernel_rfl
def oku (a : Int) : Prop := (Lit.int .u32 a).wf = true
/-- a head's datum -/
def hdat {H : Type} (k c e t s : Int) : DataW H := .agg [.lit (.int .u8 k), .lit (.int .u8 c), .lit (.int .u32 e), .lit (.int .u32 t), .lit (.int .u32 s)]
def hdv (k c e t s : Int) : Array Value := #[.int .u8 k, .int .u8 c, .int .u32 e, .int .u32 t, .int .u32 s]
theorem head_cells {H : Type} {enc : TypeId × Value → H} {W : World} {base : Nat} {sp : Nat → Bool} {held : Bool} {fuel : Nat} {cs : List Value} {x : DataW H × List MemPlace}
    (h : DataW.trod enc Tryz.prog W base sp held fuel 24 cs = some x) : ∃ k c e t s, ok8 k ∧ ok8 c ∧ oku e ∧ oku t ∧ oku s ∧ cs = [.int .u8 k, .int .u8 c, .int .u32 e, .int .u32 t, .int .u32 s] ∧ x = (hdat k c e t s, []) := by
  obtain ⟨xs, n, _, hx, hl, hlen, hf⟩ := DataW.trod_struct Tryz.underlying24 h
  rw [cellsHead] at hl
  match cs, hl with
  | [c0, c1, c2, c3, c4], _ =>
  match xs, hlen with
  | [y0, y1, y2, y3, y4], _ =>
    have h0 := hf 0 _ rfl
    have h1 := hf 1 _ rfl
    have h2 := hf 2 _ rfl
    have h3 := hf 3 _ rfl
    have h4 := hf 4 _ rfl
    simp [cellsByte, cellsU32h] at h0 h1 h2 h3 h4
    obtain ⟨k, a0, a1, w0⟩ := DataW.trod_int Tryz.underlying5 h0
    obtain ⟨c, b0, b1, w1⟩ := DataW.trod_int Tryz.underlying5 h1
    obtain ⟨e, d0, d1, w2⟩ := DataW.trod_int Tryz.underlying22 h2
    obtain ⟨t, e0, e1, w3⟩ := DataW.trod_int Tryz.underlying22 h3
    obtain ⟨s, f0, f1, w4⟩ := DataW.trod_int Tryz.underlying22 h4
    simp at a0 b0 d0 e0 f0
    subst a0 b0 d0 e0 f0 a1 b1 d1 e1 f1 hx
    exact ⟨k, c, e, t, s, w0, w1, w2, w3, w4, rfl, by simp [hdat]⟩
def HdOk (k c e t s : Int) : Prop := ok8 k ∧ ok8 c ∧ oku e ∧ oku t ∧ oku s
theorem open_head {H : Type} {enc : TypeId × Value → H} {W : World} {base : Nat} {v : Value} {d : DataW H} {p : List MemPlace}
    (hv : Value.okWide Tryz.prog W .any base 24 v) (h : DataW.Trod enc Tryz.prog W 0 (fun _ => true) true 24 v d p) :
    ∃ k c e t s, v = .agg (hdv k c e t s) ∧ d = hdat k c e t s ∧ p = [] ∧ HdOk k c e t s := by
  obtain ⟨cs, rfl, hsz, _⟩ : ∃ cs, v = .agg cs ∧ cs.size = Tryz.prog.cellsOf 24 ∧ Row.okWide Tryz.prog W .any base 24 cs := by
    simpa [Value.okWide, Tryz.underlying24] using hv
  obtain ⟨fuel, hf⟩ := h
  obtain ⟨k, c, e, t, s, h1, h2, h3, h4, h5, hc, hx⟩ := head_cells hf
  simp only [Prod.mk.injEq] at hx
  obtain ⟨ls⟩ := cs
  simp [Value.cells] at hc
  subst hc
  exact ⟨k, c, e, t, s, rfl, hx.1, hx.2, h1, h2, h3, h4, h5⟩
theorem shut_head {H : Type} {enc : TypeId × Value → H} {W : World} {base : Nat} {sp : Nat → Bool} {held : Bool} {k c e t s : Int} (h : HdOk k c e t s) :
    DataW.Trod enc Tryz.prog W base sp held 24 (.agg (hdv k c e t s)) (hdat k c e t s) [] :=
  ⟨3, by
    obtain ⟨h1, h2, h3, h4, h5⟩ := h
    unfold ok8 oku at *
    simp [DataW.trod, Value.cells, hdv, Tryz.underlying24, Tryz.underlying5, Tryz.underlying22, cellsHead, cellsByte, cellsU32h, h1, h2, h3, h4, h5, hdat]⟩
theorem oku_nat {a : Int} (h : oku a) : ∃ n : Nat, a = n ∧ n < 4294967296 := by
  have : 0 ≤ a ∧ a ≤ 4294967295 := by simpa [oku, Lit.wf, IntKind.min, IntKind.max, IntKind.signed, IntKind.bits] using h
  exact ⟨a.toNat, by omega, by omega⟩
theorem HdOk.nats {k c e t s : Int} (h : HdOk k c e t s) : ∃ k' c' e' t' s' : Nat, hdv k c e t s = hvs k' c' e' t' s' ∧ HIn k' c' e' t' s' := by
  obtain ⟨h1, h2, h3, h4, h5⟩ := h
  obtain ⟨k', rfl, a1⟩ := ok8_nat h1
  obtain ⟨c', rfl, a2⟩ := ok8_nat h2
  obtain ⟨e', rfl, a3⟩ := oku_nat h3
  obtain ⟨t', rfl, a4⟩ := oku_nat h4
  obtain ⟨s', rfl, a5⟩ := oku_nat h5
  exact ⟨k', c', e', t', s', rfl, a1, a2, a3, a4, a5⟩
set_option maxHeartbeats 400000 in
theorem few20_any (w : World) (a1 a2 : Option Addr) (n1 n2 c1 c2 : Nat) (L M : List EnE) (h1 : L.length = n1) (h2 : M.length = n2) (e1 : EntsAt w a1 L) (e2 : EntsAt w a2 M) (z1 : esz L ≤ 1048576) (z2 : esz M ≤ 1048576) :
    Calls Tryz.prog 11 #[.slice a1 n1 c1, .slice a2 n2 c2] w fun e w' => e = .returned (.bool (decide (esz L ≤ 400) && decide (esz M ≤ 400))) ∧ Fr Nobody w w' := by
  have HF : Hid (Calls _ _ _ _ _) := few_any w a1 n1 c1 L h1 e1 z1
  have HG : Hid (∀ W, Fr Nobody w W → Calls Tryz.prog 21 #[.slice a2 n2 c2] W fun e w' => e = .returned (.bool (decide (esz M ≤ 400))) ∧ Fr Nobody W w') := fun W hf => few_any W a2 n2 c2 M h2 (e2.quiet hf) z2
  clear h1 h2 e1 e2 z1 z2
  generalize decide (esz L ≤ 400) = r1 at *
  generalize decide (esz M ≤ 400) = r2 at *
  cases r1
  · go_enter Tryz.func11, Tryz.ntmps11
    go_wp2_with fail
    refine HF.out.mono ?_
    rintro e w1 ⟨rfl, hf1⟩
    have H1 : Hid (Fr Nobody w w1) := hf1
    clear hf1 HF HG
    go_wp2
    go_ret
    exact ⟨rfl, H1.out⟩
  · go_enter Tryz.func11, Tryz.ntmps11
    go_wp2_with fail
    refine HF.out.mono ?_
    rintro e w1 ⟨rfl, hf1⟩
    have H1 : Hid (Fr Nobody w w1) := hf1
    have HG1 : Hid (Calls _ _ _ _ _) := HG.out w1 hf1
    clear hf1 HF HG
    go_wp2_with fail
    refine HG1.out.mono ?_
    rintro e w2 ⟨rfl, hf2⟩
    have H2 : Hid (Fr Nobody w w2) := H1.out.trans hf2
    clear hf2 HG1 H1
    go_wp2
    go_ret
    exact ⟨rfl, H2.out⟩
end Go.Proofs.YtbencjopjdjepaaGreatDoor

/-
  The document's example of a packet; steps from a snapshot to itself, sealed.
-/
namespace Go.Proofs.YtbencjopjdjepaaGreatDoor
open Go.RowKit
set_option linter.unusedVariables false
set_option maxRecDepth 100000

theorem right3 : Right 3 2 1 5 0 := ⟨by decide, by decide, by decide, by decide, by decide, by decide, by decide, by decide, by decide⟩
theorem ack_len : nb (headB 3 2 1 5 0 ++ []).length = 6 := by decide +kernel
theorem ack_pack : pack (headB 3 2 1 5 0 ++ []) = [146, 80, 0, 0, 0, 0] := by decide +kernel
set_option maxHeartbeats 1000000 in
theorem awake20 (w : World) (htf : Tabf w) : Calls Tryz.prog 10 #[] w fun e w' => e = .returned (.bool true) ∧ Fr Nobody w w' := by
  have hS := pseal_ok w w htf [] (Own.start w) 3 2 1 5 0 right3 (.slice none 0 0) (.slice none 0 0) [] (by decide +kernel) (by decide) (fun w' p b X hw => by
    rw [List.append_nil]
    exact content_no w w' _ p 3 _ none 0 hw (by decide) (by decide))
  rw [ack_len, ack_pack] at hS
  have HS : Hid (Calls Tryz.prog 13 #[.agg #[.int .u8 3, .int .u8 2, .int .u32 1, .int .u32 5, .int .u32 0], .slice none 0 0, .slice none 0 0] w _) := hS
  clear hS htf
  go_enter Tryz.func10, Tryz.ntmps10
  go_wp2_with fail
  refine HS.out.mono ?_
  rintro x w1 ⟨g, cp, rfl, h1⟩
  have hin : In w1 (some ⟨g, 0, none⟩) (6 + 4) cp (frm [146, 80, 0, 0, 0, 0]) := In.of_row h1.row (by rw [length_frm]; rfl) (frm_byte _ (by decide))
  have hfo := frm_opens [146, 80, 0, 0, 0, 0] 6 rfl
  have hO := ropen_ok w1 (some ⟨g, 0, none⟩) cp 6 (frm [146, 80, 0, 0, 0, 0]) hin (by decide) hfo.1
  rw [hfo.2] at hO
  have HO : Hid (Calls Tryz.prog 39 #[.slice (some ⟨g, 0, none⟩) 10 cp] w1 _) := hO
  have H1 : Hid (Own w w1 _) := h1
  clear hO hin hfo h1 HS
  go_wp2_with fail
  refine HO.out.mono ?_
  rintro x w2 ⟨v, rfl, hr, hf⟩
  have h2 := H1.out.quiet hf
  have h3 := h2.litRow #[.int .u8 146, .int .u8 80, .int .u8 0, .int .u8 0, .int .u8 0, .int .u8 0] 5 1 6 (by decide) rfl
  have HSM : Hid (Calls _ _ _ _ _) := same_any (w2.alloc (.cells #[.int .u8 146, .int .u8 80, .int .u8 0, .int .u8 0, .int .u8 0, .int .u8 0] 5)) v (.slice (some ⟨w2.heap.size, 0, none⟩) 6 6) [146, 80, 0, 0, 0, 0] (Src.of_row ((row_weak hr).alloc _)) (Src.of_row h3.row)
  have HF : Hid (Fr Nobody w (w2.alloc (.cells #[.int .u8 146, .int .u8 80, .int .u8 0, .int .u8 0, .int .u8 0, .int .u8 0] 5))) := h3.fr
  clear h2 h3 hf HO H1 hr
  go_wp2_with fail
  refine HSM.out.mono ?_
  rintro x w3 ⟨rfl, rfl⟩
  clear HSM
  go_wp2
  go_ret
  exact ⟨rfl, HF.out⟩
end Go.Proofs.YtbencjopjdjepaaGreatDoor

/-
  The table that the program's text lays: what its reading gives.
-/
namespace Go.Proofs.YtbencjopjdjepaaGreatDoor
open Go.ChangeShapes Go.WideShapes Go.ChangeAt Go.WideMaps Go.WideElems Go.RowKit
set_option linter.unusedVariables false
set_option maxRecDepth 100000

theorem gSteps : Tryz.prog.globalNamed "pinnace/frame.steps" = some 0 := by kernel_rfl
theorem tSteps : (Tryz.prog.globals[0]?).map (·.type) = some 228 := by kernel_rfl

theorem tbl_vals : (List.range 16).map tbl = [0, 498536548, 997073096, 651767980, 1994146192, 1802195444, 1303535960, 1342533948, 3988292384, 4027552580, 3604390888, 3412177804, 2607071920, 2262029012, 2685067896, 3183342108] := by decide +kernel
theorem steps_at (i : Nat) (hi : i < 16) : ([DataW.lit (Lit.int IntKind.u32 0), DataW.lit (Lit.int IntKind.u32 498536548), DataW.lit (Lit.int IntKind.u32 997073096), DataW.lit (Lit.int IntKind.u32 651767980), DataW.lit (Lit.int IntKind.u32 1994146192), DataW.lit (Lit.int IntKind.u32 1802195444), DataW.lit (Lit.int IntKind.u32 1303535960), DataW.lit (Lit.int IntKind.u32 1342533948), DataW.lit (Lit.int IntKind.u32 3988292384), DataW.lit (Lit.int IntKind.u32 4027552580), DataW.lit (Lit.int IntKind.u32 3604390888), DataW.lit (Lit.int IntKind.u32 3412177804), DataW.lit (Lit.int IntKind.u32 2607071920), DataW.lit (Lit.int IntKind.u32 2262029012), DataW.lit (Lit.int IntKind.u32 2685067896), DataW.lit (Lit.int IntKind.u32 3183342108)] : List (DataW Unit))[i]? = some (DataW.lit (Lit.int IntKind.u32 ((tbl i : Nat) : Int))) := by
  have e : (tbl i) = ((List.range 16).map tbl)[i]?.getD 0 := by simp [hi]
  rw [e, tbl_vals]
  clear e
  match i, hi with
  | 0, _ => rfl
  | 1, _ => rfl
  | 2, _ => rfl
  | 3, _ => rfl
  | 4, _ => rfl
  | 5, _ => rfl
  | 6, _ => rfl
  | 7, _ => rfl
  | 8, _ => rfl
  | 9, _ => rfl
  | 10, _ => rfl
  | 11, _ => rfl
  | 12, _ => rfl
  | 13, _ => rfl
  | 14, _ => rfl
  | 15, _ => rfl
  | n + 16, h => exact absurd h (by omega)
theorem of_laidf {W : World} (h : laidMetH Tryz.prog laid1 W) : Tabf W := by
  rw [MakeChecks.laidMetH_plain _ _ _ (by kernel_rfl)] at h
  obtain ⟨ps, ⟨g0, t0, cs0, f0, p0, q0, hg0, ht0, hv0, hd0, _, _⟩, _, _⟩ := h
  obtain rfl := Option.some.inj (gSteps.symm.trans hg0)
  obtain rfl := Option.some.inj (tSteps.symm.trans ht0)
  obtain ⟨xs, m1, rfl, hx1, hlen, hn3, hel⟩ := DataW.trod_array Tryz.underlying228 hd0
  have c3 : Tryz.prog.cellsOf 22 = 1 := by kernel_rfl
  have c24 : Tryz.prog.cellsOf 228 = 16 := by kernel_rfl
  simp only [Prod.mk.injEq, DataW.agg.injEq, Rows.laid_pinnace_frame_steps] at hx1
  intro i hi
  have h0 := hel i hi
  have hxi : xs[i]? = some xs[i] := List.getElem?_eq_getElem (by rw [hn3]; exact hi)
  obtain ⟨k, e1, e2, _⟩ := DataW.trod_int Tryz.underlying22 (h0.trans hxi)
  have hk : k = ((tbl i : Nat) : Int) := by
    have h1 := steps_at i hi
    rw [hx1.1, List.getElem?_map, hxi] at h1
    simp only [Option.map_some, Option.some.injEq] at h1
    rw [e2] at h1
    simpa using h1
  subst hk
  have := World.var?_cell hg0 hv0 i
  rw [this]
  rw [c3, Nat.mul_one] at e1
  have h2 : (List.take 1 (List.drop i cs0.toList))[0]? = some (Value.int IntKind.u32 ((tbl i : Nat) : Int)) := by rw [e1]; rfl
  rw [List.getElem?_take, if_pos (by decide), List.getElem?_drop, Nat.add_zero, Array.getElem?_toList] at h2
  exact h2

end Go.Proofs.YtbencjopjdjepaaGreatDoor


