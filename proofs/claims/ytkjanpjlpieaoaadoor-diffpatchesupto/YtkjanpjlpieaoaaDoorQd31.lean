/-
  The program's Patch.
-/
import Derived.Test.YtkjanpjlpieaoaaDoorQd30
namespace Go.Proofs.YtkjanpjlpieaoaaDoor
open Go.RowKit
set_option linter.unusedVariables false
set_option maxRecDepth 100000

/-- how many components in changes -/
def hszV : List Chg → Nat
  | [] => 0
  | x :: t => x.new.length + x.set.length + hszV t
theorem hszV_chv (H : List ChE) : hszV (chv H) = hsz H := by
  induction H with
  | nil => rfl
  | cons x t ih => show x.N.length + x.S.length + hszV (chv t) = _; rw [ih]; rfl
theorem btw_sz (W N : List En) : (btw W N).gone.length ≤ W.length ∧ (btw W N).come.length ≤ N.length ∧ (btw W N).chg.length ≤ N.length ∧ hszV (btw W N).chg ≤ 2 * cszV N ∧ ∀ c ∈ (btw W N).chg, c.lost < 64 := by
  fun_induction btw W N with
  | case1 => exact ⟨Nat.le_refl _, Nat.le_refl _, Nat.le_refl _, Nat.le_refl _, fun c hc => by cases hc⟩
  | case2 w ws ih => obtain ⟨a, b, c, d, e⟩ := ih; exact ⟨by simp [addG]; omega, b, c, d, e⟩
  | case3 n ns ih => obtain ⟨a, b, c, d, e⟩ := ih; exact ⟨a, by simp [addE]; omega, by simp [addE]; omega, by simp only [addE, cszV]; omega, e⟩
  | case4 w ws n ns h ih => obtain ⟨a, b, c, d, e⟩ := ih; exact ⟨by simp [addG]; omega, b, c, d, e⟩
  | case5 w ws n ns h h2 ih => obtain ⟨a, b, c, d, e⟩ := ih; exact ⟨a, by simp [addE]; omega, by simp [addE]; omega, by simp only [addE, cszV]; omega, e⟩
  | case6 w ws n ns h h2 ih =>
    obtain ⟨a, b, c, d, e⟩ := ih
    refine ⟨by simp [addC]; omega, by simp [addC]; omega, ?_, ?_, ?_⟩
    · simp only [addC, List.length_cons]
      split
      · omega
      · simp only [List.length_cons]; omega
    · simp only [addC, cszV]
      split
      · omega
      · simp only [hszV]
        have h1 := List.length_filter_le (isNew w.2) n.2
        have h3 := List.length_filter_le (isSet w.2) n.2
        show (n.2.filter (isNew w.2)).length + (n.2.filter (isSet w.2)).length + _ ≤ _
        omega
    · intro x hx
      simp only [addC] at hx
      split at hx
      · exact e x hx
      · rcases List.mem_cons.1 hx with rfl | hx
        · exact lost_lt _ _
        · exact e x hx
theorem dlIn_of {W N : List EnE} {d : DlE} (hd : d.v = btw (evs W) (evs N)) (hW : esz W ≤ 200000) (hN : esz N ≤ 450000) : DlIn d := by
  obtain ⟨a, b, c, e, f⟩ := btw_sz (evs W) (evs N)
  have cs := come_sz (evs W) (evs N)
  rw [← hd] at a b c e f cs
  rw [evs_len] at a b c
  rw [cszV_evs] at e cs
  have hb : (evs d.M).length ≤ N.length := b
  have hcs : cszV (evs d.M) ≤ csz N := cs
  have hc : (chv d.H).length ≤ N.length := c
  have he : hszV (chv d.H) ≤ 2 * csz N := e
  have ha : d.G.length ≤ W.length := a
  rw [evs_len] at hb
  rw [cszV_evs] at hcs
  rw [chv_len] at hc
  rw [hszV_chv] at he
  unfold esz at hW hN
  refine ⟨by omega, by unfold esz; omega, by omega, fun x hx => ?_⟩
  have := f x.v (List.mem_map.2 ⟨x, hx, rfl⟩)
  show x.lost < 256
  have h2 : x.v.lost = x.lost := rfl
  omega
theorem Own.entsCap {w0 w : World} {l : List Thing} {ao : Option Addr} {cap : Nat} {L : List EnE} (h : Own w0 w (EntsT ao cap L :: l)) : L.length ≤ cap ∧ cap ≤ 9223372036854775807 := by
  obtain ⟨_, h1⟩ := Own.ex_iff.1 h
  rcases h1.row.2 with ⟨hv, h0⟩ | ⟨g, cp, cur, hv, _, _, h3, h4, _⟩
  · simp only [Value.slice.injEq] at hv
    omega
  · simp only [Value.slice.injEq] at hv
    unfold maxLen at h4
    omega
/-- what Patch answers -/
def PatR (W : List En) (d : Dl) (code : Nat) (R : List En) : Prop := (fm 0 W ≠ 0 ∧ code = fm 0 W ∧ R = []) ∨ (fm 0 W = 0 ∧ code = 0 ∧ fm 0 R = 0 ∧ btw W R = d) ∨ (fm 0 W = 0 ∧ code = 4 ∧ R = [] ∧ ∀ M, fm 0 M = 0 → btw W M ≠ d)
theorem pat_no {W R Lq : List En} {d : Dl} (hW : fm 0 W = 0) (h1 : AftR W d.gone d.chg Lq) (h2 : R.Perm (Lq ++ d.come)) (h3 : R.Pairwise (fun a b => a.1 ≤ b.1)) (hn : ¬ (fm 0 R = 0 ∧ btw W R = d)) : ∀ M, fm 0 M = 0 → btw W M ≠ d := by
  intro M hM e
  subst e
  have := aft_one (Snap.of hW) (Snap.of hM) h1 h2 h3
  subst this
  exact hn ⟨hM, rfl⟩
structure DlOk (d : DlE) : Prop where
  cp : d.G.length ≤ d.gc ∧ d.H.length ≤ d.hc ∧ d.gc ≤ 9223372036854775807 ∧ d.hc ≤ 9223372036854775807
  m : EIn d.M
  zm : esz d.M ≤ 100000
  zh : d.H.length + hsz d.H ≤ 100000
  lo : ∀ x ∈ d.H, x.lost < 256 ∧ ∀ q ∈ x.N, q.k < 256
  zg : d.G.length ≤ 100000
theorem DlOk.dlIn {d : DlE} (h : DlOk d) : DlIn d := ⟨by have := h.zg; omega, by have := h.zm; omega, by have := h.zh; omega, fun x hx => (h.lo x hx).1⟩
set_option maxHeartbeats 16000000 in
theorem patch_any (w0 w : World) (ht : Tab w0) (l : List Thing) (h : Own w0 w l) (aw : Option Addr) (n cw : Nat) (W : List EnE) (d : DlE) (hQ : ∀ w', Own w0 w' l → EntsAt w' aw W ∧ DlAt w' d) (hW : W.length = n) (hcw : n ≤ cw) (hmw : cw ≤ 9223372036854775807) (hIW : EIn W) (hzW : esz W ≤ 50000) (hd : DlOk d) :
    Calls Tryd.prog 9 #[.slice aw n cw, .agg d.vs] w fun e w' => ∃ (code : Nat) (ao : Option Addr) (cap : Nat) (R : List EnE), e = .returned (.tuple #[.slice ao R.length cap, .int .i64 (code : Int)]) ∧ PatR (evs W) d.v code (evs R) ∧ EIn R ∧ esz R ≤ 450000 ∧ Own w0 w' (EntsT ao cap R :: l) := by
  have hB := h.allocC d.vs 26
  have HF1 : Hid (Calls _ _ _ _ _) := form_any _ (ht.quiet hB.fr) aw n cw W ((hQ _ hB.tail).1) hW hIW (by omega)
  have HAF : Hid (∀ W2 b, Own w0 W2 (Cells b #[.slice d.ga d.G.length d.gc, .slice d.ma d.M.length d.mc, .slice d.ha d.H.length d.hc] 26 :: l) → Calls Tryd.prog 16 #[.slice aw n cw, .agg #[.slice d.ga d.G.length d.gc, .slice d.ma d.M.length d.mc, .slice d.ha d.H.length d.hc]] W2 fun e w' => ∃ (ao : Option Addr) (cap : Nat) (R : List EnE), e = .returned (.slice ao R.length cap) ∧ (∃ Lq, AftR (evs W) d.G (chv d.H) Lq ∧ (evs R).Perm (Lq ++ evs d.M) ∧ (evs R).Pairwise (fun a b => a.1 ≤ b.1)) ∧ esz R ≤ 450000 ∧ EIn R ∧ Own w0 w' (EntsT ao cap R :: Cells b #[.slice d.ga d.G.length d.gc, .slice d.ma d.M.length d.mc, .slice d.ha d.H.length d.hc] 26 :: l)) := fun W2 b hw => by
    refine (after_any w0 W2 _ hw aw n cw W d (fun w' hw' => hQ w' hw'.tail) hW hd.cp hIW hd.m (by omega) (by have := hd.zm; omega) (by have := hd.zh; omega) hd.lo (by have := hd.zg; omega)).mono ?_
    rintro e w' ⟨ao, cap, R, h1, h2, h3, h4, h5⟩
    exact ⟨ao, cap, R, h1, h2, by have := hd.zm; have := hd.zh; omega, h4, h5⟩
  have HFR : Hid (∀ (ao : Option Addr) (cap : Nat) (R : List EnE) (b : Nat), esz R ≤ 450000 → EIn R → ∀ W2, Own w0 W2 (EntsT ao cap R :: Cells b #[.slice d.ga d.G.length d.gc, .slice d.ma d.M.length d.mc, .slice d.ha d.H.length d.hc] 26 :: l) → Calls Tryd.prog 15 #[.slice ao R.length cap] W2 fun e w' => e = .returned (.int .i64 ((fm 0 (evs R) : Nat) : Int)) ∧ Fr Nobody W2 w') := fun ao cap R b hz hi W2 hw => form_any W2 (ht.quiet hw.fr) ao R.length cap R hw.entsAt rfl hi (by omega)
  have HBT : Hid (∀ (ao : Option Addr) (cap : Nat) (R : List EnE) (b : Nat), esz R ≤ 450000 → EIn R → ∀ W2, Own w0 W2 (EntsT ao cap R :: Cells b #[.slice d.ga d.G.length d.gc, .slice d.ma d.M.length d.mc, .slice d.ha d.H.length d.hc] 26 :: l) → Calls Tryd.prog 18 #[.slice aw n cw, .slice ao R.length cap] W2 fun e w' => ∃ d2 : DlE, e = .returned (.agg d2.vs) ∧ d2.v = btw (evs W) (evs R) ∧ Own w0 w' (d2.things ++ (EntsT ao cap R :: Cells b #[.slice d.ga d.G.length d.gc, .slice d.ma d.M.length d.mc, .slice d.ha d.H.length d.hc] 26 :: l))) := fun ao cap R b hz hi W2 hw => by
    exact between_any w0 W2 _ hw aw ao n R.length cw cap W R (fun w' hw' => ⟨(hQ w' hw'.tail.tail).1, hw'.entsAt⟩) hW rfl hcw hw.entsCap.1 hmw hw.entsCap.2 hIW hi (by omega) (by omega)
  have HSM : Hid (∀ (ao : Option Addr) (cap : Nat) (R : List EnE) (b : Nat), esz R ≤ 450000 → ∀ (d2 : DlE) W2, d2.v = btw (evs W) (evs R) → Own w0 W2 (d2.things ++ (EntsT ao cap R :: Cells b #[.slice d.ga d.G.length d.gc, .slice d.ma d.M.length d.mc, .slice d.ha d.H.length d.hc] 26 :: l)) → Calls Tryd.prog 17 #[.agg d2.vs, .agg #[.slice d.ga d.G.length d.gc, .slice d.ma d.M.length d.mc, .slice d.ha d.H.length d.hc]] W2 fun e w' => e = .returned (.bool (decide (btw (evs W) (evs R) = d.v))) ∧ Own w0 w' (d2.things ++ (EntsT ao cap R :: Cells b #[.slice d.ga d.G.length d.gc, .slice d.ma d.M.length d.mc, .slice d.ha d.H.length d.hc] 26 :: l))) := fun ao cap R b hz d2 W2 hv hw => by
    rw [← hv]
    refine (same_any W2 d2 d hw.dlAt (hQ W2 (Own.dropA hw).tail.tail).2 (dlIn_of hv (by omega) hz) hd.dlIn).mono ?_
    rintro e w' ⟨rfl, hf⟩
    exact ⟨rfl, hw.quiet hf⟩
  have HPN : Hid (∀ R : List EnE, fm 0 (evs W) = 0 → (∃ Lq, AftR (evs W) d.G (chv d.H) Lq ∧ (evs R).Perm (Lq ++ evs d.M) ∧ (evs R).Pairwise (fun a b => a.1 ≤ b.1)) → ¬ (fm 0 (evs R) = 0 ∧ btw (evs W) (evs R) = d.v) → PatR (evs W) d.v 4 []) := fun R h0 ⟨Lq, h1, h2, h3⟩ hn => .inr (.inr ⟨h0, rfl, rfl, pat_no h0 h1 h2 h3 hn⟩)
  have HB : Hid (Own w0 _ _) := hB
  have hs1 := fm_lt 0 (evs W)
  obtain ⟨x, hx⟩ : ∃ x, x = fm 0 (evs W) := ⟨_, rfl⟩
  rw [← hx] at HF1 hs1
  have HX : Hid (fm 0 (evs W) = x) := hx.symm
  clear h hQ hW hcw hmw hIW hzW hB ht hd hx
  unfold DlE.vs at HB HF1
  unfold DlE.vs
  go_enter Tryd.func9, Tryd.ntmps9
  go_wp2_with fail
  refine HF1.out.mono ?_
  rintro e w1 ⟨rfl, hf1⟩
  have h1 := HB.out.quiet hf1
  generalize w.heap.size = b3 at *
  clear HF1 HB hf1
  by_cases hx0 : x = 0
  · subst hx0
    have p0 := h1.cell 0
    have p1 := h1.cell 1
    have p2 := h1.cell 2
    simp at p0 p1 p2
    have HAC : Hid (Calls _ _ _ _ _) := HAF.out w1 b3 h1
    clear h1 HAF
    go_wp2_with fail
    refine HAC.out.mono ?_
    rintro e w4 ⟨a4, c4, R, rfl, hA, hzR, hiR, h4⟩
    have HR : Hid ((∃ Lq, AftR (evs W) d.G (chv d.H) Lq ∧ (evs R).Perm (Lq ++ evs d.M) ∧ (evs R).Pairwise (fun a b => a.1 ≤ b.1)) ∧ esz R ≤ 450000 ∧ EIn R) := ⟨hA, hzR, hiR⟩
    have HP : Hid (¬ (fm 0 (evs R) = 0 ∧ btw (evs W) (evs R) = d.v) → PatR (evs W) d.v 4 []) := HPN.out R HX.out hA
    have HF2 : Hid (∀ W2, Own w0 W2 (EntsT a4 c4 R :: Cells b3 #[.slice d.ga d.G.length d.gc, .slice d.ma d.M.length d.mc, .slice d.ha d.H.length d.hc] 26 :: l) → Calls Tryd.prog 15 #[.slice a4 R.length c4] W2 fun e w' => e = .returned (.int .i64 ((fm 0 (evs R) : Nat) : Int)) ∧ Fr Nobody W2 w') := HFR.out a4 c4 R b3 hzR hiR
    have HB2 : Hid (∀ W2, Own w0 W2 (EntsT a4 c4 R :: Cells b3 #[.slice d.ga d.G.length d.gc, .slice d.ma d.M.length d.mc, .slice d.ha d.H.length d.hc] 26 :: l) → Calls Tryd.prog 18 #[.slice aw n cw, .slice a4 R.length c4] W2 fun e w' => ∃ d2 : DlE, e = .returned (.agg d2.vs) ∧ d2.v = btw (evs W) (evs R) ∧ Own w0 w' (d2.things ++ (EntsT a4 c4 R :: Cells b3 #[.slice d.ga d.G.length d.gc, .slice d.ma d.M.length d.mc, .slice d.ha d.H.length d.hc] 26 :: l))) := HBT.out a4 c4 R b3 hzR hiR
    have HS2 : Hid (∀ (d2 : DlE) W2, d2.v = btw (evs W) (evs R) → Own w0 W2 (d2.things ++ (EntsT a4 c4 R :: Cells b3 #[.slice d.ga d.G.length d.gc, .slice d.ma d.M.length d.mc, .slice d.ha d.H.length d.hc] 26 :: l)) → Calls Tryd.prog 17 #[.agg d2.vs, .agg #[.slice d.ga d.G.length d.gc, .slice d.ma d.M.length d.mc, .slice d.ha d.H.length d.hc]] W2 fun e w' => e = .returned (.bool (decide (btw (evs W) (evs R) = d.v))) ∧ Own w0 w' (d2.things ++ (EntsT a4 c4 R :: Cells b3 #[.slice d.ga d.G.length d.gc, .slice d.ma d.M.length d.mc, .slice d.ha d.H.length d.hc] 26 :: l))) := HSM.out a4 c4 R b3 hzR
    clear hA hzR hiR HPN HFR HBT HSM HAC p0 p1 p2
    obtain ⟨q, hq⟩ : ∃ q : Bool, q = decide (btw (evs W) (evs R) = d.v) := ⟨_, rfl⟩
    have hsr := fm_lt 0 (evs R)
    obtain ⟨r, hr⟩ : ∃ r, r = fm 0 (evs R) := ⟨_, rfl⟩
    rw [← hr] at HF2 hsr
    rw [← hq] at HS2
    have HQR : Hid (q = decide (btw (evs W) (evs R) = d.v) ∧ r = fm 0 (evs R)) := ⟨hq, hr⟩
    clear hq hr
    generalize hrl : R.length = rl at *
    have HO4 : Hid (Own w0 w4 (EntsT a4 c4 R :: Cells b3 #[.slice d.ga d.G.length d.gc, .slice d.ma d.M.length d.mc, .slice d.ha d.H.length d.hc] 26 :: l)) := h4
    clear h4
    go_wp2_with fail
    go_cut [26] (fun s26 wc => s26 = .bool (!(decide (r = 0) && q)) ∧ Own w0 wc (EntsT a4 c4 R :: Cells b3 #[.slice d.ga d.G.length d.gc, .slice d.ma d.M.length d.mc, .slice d.ha d.H.length d.hc] 26 :: l))
    case first =>
      by_cases hr0 : r = 0
      · subst hr0
        have O1 := HO4.out.drew
        have p0 := HO4.out.two.cell 0
        have p1 := HO4.out.two.cell 1
        have p2 := HO4.out.two.cell 2
        simp at p0 p1 p2
        have z0 : ((0 : Int) != 0) = false := rfl
        clear HO4
        go_region_held3 (fun w' => w'.cell? ⟨b3, 0, none⟩ = some (.slice d.ga d.G.length d.gc) ∧ w'.cell? ⟨b3, 1, none⟩ = some (.slice d.ma d.M.length d.mc) ∧ w'.cell? ⟨b3, 2, none⟩ = some (.slice d.ha d.H.length d.hc)) (go_keep)
          (first
            | (go_at_call 15; with_reducible refine (HF2.out _ O1).mono ?_; rintro e w5 ⟨rfl, hf5⟩
               have O5 := Own.quiet O1 hf5
               have u0 := (Own.two O5).cell 0
               have u1 := (Own.two O5).cell 1
               have u2 := (Own.two O5).cell 2
               simp at u0 u1 u2)
            | (go_at_call 18; with_reducible refine (HB2.out _ O5).mono ?_; rintro e w6 ⟨d2, rfl, hd2, O6⟩
               have u0 := (Own.two (Own.dropA O6)).cell 0
               have u1 := (Own.two (Own.dropA O6)).cell 1
               have u2 := (Own.two (Own.dropA O6)).cell 2
               simp at u0 u1 u2)
            | (go_at_call 17; with_reducible refine (HS2.out _ _ hd2 O6).mono ?_; rintro e w7 ⟨rfl, O7⟩
               have u0 := (Own.two (Own.dropA O7)).cell 0
               have u1 := (Own.two (Own.dropA O7)).cell 1
               have u2 := (Own.two (Own.dropA O7)).cell 2
               simp at u0 u1 u2))
        go_wp2
        go_meet
        case rel => exact ⟨by cases q <;> rfl, Own.dropA O7⟩
      · have hr1 : ((r : Int) != 0) = true := by simpa using hr0
        have hrd : decide (r = 0) = false := decide_eq_false hr0
        have HID : Hid (∀ f : FrOf w4, Calls Tryd.prog 15 #[.slice a4 rl c4] f.val fun e w' => e = .returned (.int .i64 (r : Int)) ∧ Fr Nobody f.val w') := fun f => HF2.out f.val (HO4.out.quiet f.fr)
        clear hr0 HF2 HB2 HS2
        go_wp2
        refine wp_region_fr (by kernel_rfl) (by kernel_rfl) ?_
        repeat (with_reducible refine wpQuiet_step (fun K hK => ?_)
                go_simp
                first
                  | (refine hK _ ?_; clear hK K)
                  | (apply Exists.intro
                     refine ⟨fun _ => ?_, hK _ ?_⟩
                     (go_at_call 15; with_reducible refine Calls.fr_of (HID.out _))
                     clear hK K))
        refine wpQuiet_nil ?_
        rintro w' ⟨f, rfl⟩
        have HO2 : Hid (Own w0 f.val _) := HO4.out.quiet f.fr
        generalize f.val = W2 at *
        go_wp2
        go_meet
        case rel => exact ⟨by rw [hrd]; rfl, HO2.out⟩
    case rest =>
      obtain ⟨rfl, hO5⟩ := hcut
      clear HF2 HB2 HS2 HO4
      by_cases hg : (decide (r = 0) && q) = true
      · have HG : Hid (r = 0 ∧ q = true) := by rw [Bool.and_eq_true, decide_eq_true_eq] at hg; exact hg
        rw [hg]
        have HO : Hid (Own w0 wc (EntsT a4 c4 R :: l)) := hO5.two.tail
        clear hO5 hg HP
        go_wp2
        go_ret2
        refine ⟨0, a4, c4, R, by rw [hrl]; rfl, .inr (.inl ⟨HX.out, rfl, ?_, ?_⟩), HR.out.2.2, HR.out.2.1, HO.out⟩
        · rw [← HQR.out.2]; exact HG.out.1
        · have := HQR.out.1; rw [HG.out.2] at this; exact of_decide_eq_true this.symm
      · have HG : Hid (¬ (fm 0 (evs R) = 0 ∧ btw (evs W) (evs R) = d.v)) := by
          rw [Bool.and_eq_true, decide_eq_true_eq, HQR.out.1, decide_eq_true_eq, HQR.out.2] at hg; exact hg
        have hg' : (decide (r = 0) && q) = false := by cases hh : (decide (r = 0) && q) with | false => rfl | true => exact absurd hh hg
        rw [hg']
        have HF : Hid (Own w0 wc (EntsT none 0 [] :: l)) := Own.ents (ao := none) (cap := 0) (L := []) (hO5.tail.tail.nilRow _ _)
        clear hO5 hg hg'
        go_wp2
        go_ret2
        exact ⟨4, none, 0, [], rfl, HP.out HG.out, (fun y hy => nomatch hy), by decide, HF.out⟩
  · have hx1 : ((x : Int) != 0) = true := by simpa using hx0
    have HF : Hid (Own w0 w1 (EntsT none 0 [] :: l)) := Own.ents (ao := none) (cap := 0) (L := []) (h1.tail.nilRow _ _)
    clear h1 HAF HFR HBT HSM HPN
    go_wp2
    go_ret2
    exact ⟨x, none, 0, [], rfl, .inl ⟨by rw [HX.out]; exact hx0, HX.out.symm, rfl⟩, (fun y hy => nomatch hy), by decide, HF.out⟩
end Go.Proofs.YtkjanpjlpieaoaaDoor

