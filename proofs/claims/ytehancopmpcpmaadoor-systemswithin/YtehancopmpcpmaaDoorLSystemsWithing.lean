/-
  Whatever moves stays within the world, and no component is ever outside its range, however they follow one another: SystemsWithin returns true, whatever its arguments, where the table of the components lies as the program's text lays it, and changes nothing that was there.
-/
import Derived.Test.YtehancopmpcpmaaDoorJhg
import Derived.Test.YtehancopmpcpmaaDoorJog
import Derived.OpenShut
import Derived.SevenTiedAt
namespace Go.Proofs.YtehancopmpcpmaaDoor
open Go.ChangeShapes Go.WideShapes Go.ChangeAt Go.RowKit
set_option linter.unusedVariables false
set_option maxRecDepth 100000

/-- WHAT A WALK IS TOLD OF A SLICE OF INTEGERS THAT CAME IN (as the guide's shell has it). -/
def IsRow (k : IntKind) (w : World) (a : Option Addr) (len cap : Nat) (zs : List Int) : Prop :=
  (a = none ∧ len = 0 ∧ cap = 0 ∧ zs = []) ∨
  ∃ x, a = some x ∧ len ≤ cap ∧ cap ≤ maxLen ∧ zs.length = cap ∧ (∀ i, i < zs.length → w.cell? (x.add i) = some (.int k (zs.getD i 0))) ∧ ∀ n ∈ zs, (Lit.int k n).wf = true
/-- The numbers P of a slice of integers of kind k: nothing is asked of its address where there are none. -/
def Ints (k : IntKind) (w : World) (ao : Option Addr) (P : List Int) : Prop :=
  P = [] ∨ ∃ g o, ao = some ⟨g, o, none⟩ ∧ ∀ j x, P[j]? = some x → w.cell? ⟨g, o + j, none⟩ = some (.int k x)
theorem Ints.quiet {k : IntKind} {w w' : World} {ao : Option Addr} {P : List Int} (h : Ints k w ao P) (hf : Fr Nobody w w') : Ints k w' ao P := by
  rcases h with h | ⟨g, o, ha, hc⟩
  · exact .inl h
  · refine .inr ⟨g, o, ha, fun j x hx => ?_⟩
    have h1 := hc j x hx
    exact (hf.cell (p := ⟨g, o + j, none⟩) (World.block_lt_of_cell? w _ h1) id).trans h1
theorem IsRow.ints {k : IntKind} {w : World} {a : Option Addr} {len cap : Nat} {zs : List Int} (h : IsRow k w a len cap zs) : (zs.take len).length = len ∧ len ≤ maxLen ∧ Ints k w a (zs.take len) ∧ ∀ n ∈ zs.take len, (Lit.int k n).wf = true := by
  rcases h with ⟨rfl, rfl, rfl, rfl⟩ | ⟨x, rfl, hl, hm, hz, hc, hw⟩
  · exact ⟨rfl, Nat.zero_le _, .inl rfl, fun n hn => by simp at hn⟩
  · refine ⟨by rw [List.length_take]; omega, by omega, ?_, fun n hn => hw n (List.mem_of_mem_take hn)⟩
    by_cases h0 : len = 0
    · subst h0; left; simp
    · right
      obtain ⟨g, o, spot⟩ := x
      have h1 := hc 0 (by omega)
      have hs : spot = none := by simpa [Addr.add] using World.cell?_spot h1
      subst hs
      refine ⟨g, o, rfl, fun j y hy => ?_⟩
      rw [List.getElem?_take] at hy
      split at hy
      · rename_i hj
        have h2 := hc j (by omega)
        rw [addr_add] at h2
        rw [h2]
        rw [List.getD_eq_getElem?_getD, hy]; rfl
      · cases hy
/-- one of the three systems -/
def st3 (o : Nat) (σ : Sto) : Sto := if o % 3 = 0 then (σ.mvs (σ.find 3 0)).1 else if o % 3 = 1 then (σ.ags (σ.find 4 0)).1 else (σ.brs (σ.find 33 0)).1
theorem st3_ok {o : Nat} {σ : Sto} (h : σ.Ok) : (st3 o σ).Ok := by
  unfold st3
  split
  · exact (Sto.mvs_inv h _).1
  · split
    · exact (Sto.ags_inv h _ (find_nodup h 4 0) (fun x hx => (mem_find h hx).1)).1
    · exact (Sto.brs_inv h _).1
def run3 (f : Nat → Nat) (σ : Sto) : Nat → Sto
  | 0 => σ
  | j + 1 => st3 (f j) (run3 f σ j)
theorem run3_ok {f : Nat → Nat} {σ : Sto} (h : σ.Ok) : ∀ j, (run3 f σ j).Ok
  | 0 => h
  | j + 1 => st3_ok (run3_ok h j)
set_option maxHeartbeats 4000000 in
theorem systemsWithin_fr (w : World) (ht : Tab w) (m : Nat) (hm : m < 256) (ao : Option Addr) (len cap : Nat) (Q : List LsE) (hQl : Q.length = len) (hlc : len ≤ cap) (hcm : cap ≤ maxLen) (hM : Lss w ao Q) (hw : ∀ x ∈ Q, x.C.length ≤ x.cap ∧ x.cap ≤ 9223372036854775807 ∧ ∀ q ∈ x.C, q.k < 256) (oa : Option Addr) (ol oc : Nat) (P : List Int) (hPl : P.length = ol) (hom : ol ≤ maxLen) (hP : Ints .u8 w oa P) (hPw : ∀ x ∈ P, (Lit.int .u8 x).wf = true) :
    Calls Tryd.prog 6 #[.int .u8 (m : Int), .slice ao len cap, .slice oa ol oc] w fun e w' => e = .returned (.bool true) ∧ Fr Nobody w w' := by
  unfold maxLen at hcm hom
  have HT : Hid (Tab w) := ht
  have HFL : Hid (∀ w', Fr Nobody w w' → Calls Tryd.prog 8 #[.int .u8 (m : Int), .slice ao len cap] w' fun e w'' => ∃ b bx, e = .returned (.tuple #[.pointer (some ⟨b, 0, none⟩), .pointer (some ⟨bx, 0, none⟩)]) ∧ Own w w'' [Store b (fillL (1 + m % 40) Q) 50, RSto bx (fillL (1 + m % 40) Q) 50]) := fun w' hf => fillL_go w w' [] (Own.of_fr hf) ht m hm ao len cap Q hQl (by omega) (fun w'' h'' => hM.quiet h''.fr) hw
  obtain ⟨σ0, hσ0⟩ : ∃ σ0, fillL (1 + m % 40) Q = σ0 := ⟨_, rfl⟩
  have hok0 : σ0.Ok := by rw [← hσ0]; exact fillL_ok (by omega) (by omega) Q
  rw [hσ0] at HFL
  obtain ⟨f, hf⟩ : ∃ f : Nat → Nat, f = fun j => (P.getD j 0).toNat := ⟨_, rfl⟩
  have HPB : Hid (∀ j, j < ol → ∀ w', Fr Nobody w w' → f j < 256 ∧ ∃ g o, oa = some ⟨g, o, none⟩ ∧ w'.cell? ⟨g, o + j, none⟩ = some (.int .u8 (f j : Int))) := by
    intro j hj w' hf'
    have hq : P[j]? = some (P.getD j 0) := by
      rw [List.getD_eq_getElem?_getD, List.getElem?_eq_getElem (by rw [hPl]; exact hj)]; rfl
    have hwf := hPw _ (List.mem_of_getElem? hq)
    obtain ⟨nn, h8e, h8⟩ := ok8_nat hwf
    have hfj : f j = nn := by rw [hf]; simp only; rw [h8e]; rfl
    have he : ((f j : Nat) : Int) = P.getD j 0 := by rw [hfj, h8e]
    rcases hP.quiet hf' with h0 | ⟨g, o, ha, hc⟩
    · rw [h0] at hPl; simp at hPl; omega
    · exact ⟨by omega, g, o, ha, by rw [he]; exact hc j _ hq⟩
  have HOK : Hid (∀ t, (run3 f σ0 t).Ok) := run3_ok hok0
  have HM : Hid (∀ w' b l' (σ : Sto) (K : Nat), σ.Ok → K ≤ 900000 → Own w w' (Store b σ K :: l') → Calls Tryd.prog 10 #[.pointer (some ⟨b, 0, none⟩)] w' fun e w'' => ∃ ao n cap, e = .returned (.slice ao n cap) ∧ Own w w'' (Store b (σ.mvs (σ.find 3 0)).1 (K + 1024) :: l')) := by
    intro w' b l' σ K hσ hK h'
    refine (move_ok w w' l' b σ K ht h' hσ (by omega)).mono ?_
    rintro e w'' ⟨ao, cap, rfl, h2⟩
    exact ⟨ao, _, cap, rfl, (h2.tail.stoK (show K ≤ K + 1024 by omega))⟩
  have HA : Hid (∀ w' b l' (σ : Sto) (K : Nat), σ.Ok → K ≤ 900000 → Own w w' (Store b σ K :: l') → Calls Tryd.prog 13 #[.pointer (some ⟨b, 0, none⟩)] w' fun e w'' => ∃ ao n cap, e = .returned (.slice ao n cap) ∧ Own w w'' (Store b (σ.ags (σ.find 4 0)).1 (K + 1024) :: l')) := by
    intro w' b l' σ K hσ hK h'
    refine (age_ok w w' l' b σ K ht h' hσ hK).mono ?_
    rintro e w'' ⟨ao, cap, rfl, h2⟩
    have hln := Nat.le_trans (Sto.ags_inv hσ _ (find_nodup hσ 4 0) (fun x hx => (mem_find hσ hx).1)).2.2 (Sto.find_len hσ.s 4 0)
    exact ⟨ao, _, cap, rfl, (h2.tail.stoK (by omega))⟩
  have HB : Hid (∀ w' b l' (σ : Sto) (K : Nat), σ.Ok → K ≤ 900000 → Own w w' (Store b σ K :: l') → Calls Tryd.prog 15 #[.pointer (some ⟨b, 0, none⟩)] w' fun e w'' => ∃ ao n cap, e = .returned (.slice ao n cap) ∧ Own w w'' (Store b (σ.brs (σ.find 33 0)).1 (K + 1024) :: l')) := by
    intro w' b l' σ K hσ hK h'
    refine (breed_ok w w' l' b σ K ht h' hσ hK).mono ?_
    rintro e w'' ⟨ao, cap, rfl, h2⟩
    exact ⟨ao, _, cap, rfl, h2.tail⟩
  have HLI : Hid (∀ w' b l' (σ : Sto) (K : Nat), σ.Ok → Own w w' (Store b σ K :: l') → Calls Tryd.prog 17 #[.pointer (some ⟨b, 0, none⟩)] w' fun e w'' => ∃ la lc, e = .returned (.slice la σ.S.list.length lc) ∧ Own w w'' (Row 38 1 (.slice la σ.S.list.length lc) σ.S.list.length (irow .u32 σ.S.list) :: Store b σ K :: l')) := by
    intro w' b l' σ K hσ h'
    refine (slist w w' l' b σ K h' hσ.s).mono ?_
    rintro e w'' ⟨v, rfl, h2⟩
    obtain ⟨la, lc, rfl⟩ := row_any h2.row
    exact ⟨la, lc, rfl, h2⟩
  have HEN : Hid (∀ (σ : Sto) (K : Nat), σ.Ok → K ≤ 1000000 → ∀ id ∈ σ.S.list, lst (-1) (σ.cps id) = 0 ∧ (σ.cps id).length ≤ 6 ∧ (∀ q ∈ σ.cps id, q.k < 256) ∧ ∀ w' b l', Own w w' (Store b σ K :: l') → Calls Tryd.prog 18 #[.pointer (some ⟨b, 0, none⟩), .int .u32 (id : Int)] w' fun e w'' => ∃ ao cap, e = .returned (.tuple #[.agg #[.int .u32 (id : Int), .slice ao (σ.cps id).length cap], .int .i64 0]) ∧ Own w w'' (Row 49 4 (.slice ao (σ.cps id).length cap) (σ.cps id).length (ccat (σ.cps id)) :: Store b σ K :: l')) := by
    intro σ K hσ hK id hid
    obtain ⟨hl, h32⟩ := St.list_iv1 hσ.s hid
    obtain ⟨r, C, hr, he, hlC, _⟩ := hσ.ent hl
    rw [Sto.cps_of hr he]
    exact ⟨hlC, lst_len6 hlC, fun q hq => by have := chk_k ((lst_ok hlC).2 q hq).2; omega, fun w' b l' h' => sent w w' l' b σ K h' hσ id h32 hl r C he hK⟩
  clear ht hM hw hQl hσ0 hok0 hf hP hPw hPl
  go_enter Tryd.func6, Tryd.ntmps6
  go_wp2_with fail
  refine (awake14 w HT.out).mono ?_
  rintro e w1 ⟨rfl, hf1⟩
  have HF1 : Hid (Calls _ _ _ _ _) := HFL.out w1 hf1
  clear hf1 HFL
  go_wp2_with fail
  refine HF1.out.mono ?_
  rintro e w2 ⟨b, bx, rfl, hO2⟩
  have H2 : Hid (Own w w2 [Store b (run3 f σ0 0) (50 + 1024 * 0), RSto bx σ0 50]) := hO2
  clear hO2 HF1
  go_wp2
  go_loopw [25] (fun v25 wr => ∃ t : Nat, t ≤ ol ∧ t ≤ 40 ∧ v25 = .int .i64 t ∧ Own w wr [Store b (run3 f σ0 t) (50 + 1024 * t), RSto bx σ0 50]) (fun v25 _ => ol - (intOf v25).toNat)
  case atStart => exact ⟨0, Nat.zero_le _, by decide, rfl, H2.out⟩
  case round =>
    obtain ⟨t, ht, ht40, rfl, hO⟩ := hrel
    clear H2
    by_cases hlt : t < ol
    · have hlt' : (t : Int) < (ol : Int) := by omega
      obtain ⟨hf8, og, oo, rfl, e0⟩ := HPB.out t hlt wr hO.fr
      by_cases h40 : t = 40
      · subst h40
        have HX : Hid (Own w wr _) := hO
        clear hO
        go_wp2
        go_ret
        exact ⟨rfl, HX.out.fr⟩
      · have hge : ¬ (40 : Int) ≤ (t : Int) := by omega
        have hok := HOK.out t
        have hok1 := HOK.out (t + 1)
        have HST : Hid (run3 f σ0 (t + 1) = st3 (f t) (run3 f σ0 t)) := rfl
        have HK : Hid (50 + 1024 * t + 1024 = 50 + 1024 * (t + 1)) := by show _ = _; omega
        have HLS : Hid (∀ w' l', Own w w' (Store b (run3 f σ0 (t + 1)) (50 + 1024 * (t + 1)) :: l') → Calls Tryd.prog 17 #[.pointer (some ⟨b, 0, none⟩)] w' fun e w'' => ∃ la lc, e = .returned (.slice la (run3 f σ0 (t + 1)).S.list.length lc) ∧ Own w w'' (Row 38 1 (.slice la (run3 f σ0 (t + 1)).S.list.length lc) (run3 f σ0 (t + 1)).S.list.length (irow .u32 (run3 f σ0 (t + 1)).S.list) :: Store b (run3 f σ0 (t + 1)) (50 + 1024 * (t + 1)) :: l')) := fun w' l' h' => HLI.out w' b l' _ _ hok1 h'
        have HES : Hid _ := HEN.out _ (50 + 1024 * (t + 1)) hok1 (by omega)
        have hxl := list_len2 hok1.s
        have h3 : (((f t : Int) % 3 = 0) ∧ Hid (Calls Tryd.prog 10 #[.pointer (some ⟨b, 0, none⟩)] wr fun e w'' => ∃ ao n cap, e = .returned (.slice ao n cap) ∧ Own w w'' [Store b (run3 f σ0 (t + 1)) (50 + 1024 * (t + 1)), RSto bx σ0 50])) ∨ (((f t : Int) % 3 = 1) ∧ Hid (Calls Tryd.prog 13 #[.pointer (some ⟨b, 0, none⟩)] wr fun e w'' => ∃ ao n cap, e = .returned (.slice ao n cap) ∧ Own w w'' [Store b (run3 f σ0 (t + 1)) (50 + 1024 * (t + 1)), RSto bx σ0 50])) ∨ (((f t : Int) % 3 = 2) ∧ Hid (Calls Tryd.prog 15 #[.pointer (some ⟨b, 0, none⟩)] wr fun e w'' => ∃ ao n cap, e = .returned (.slice ao n cap) ∧ Own w w'' [Store b (run3 f σ0 (t + 1)) (50 + 1024 * (t + 1)), RSto bx σ0 50])) := by
          rw [HST.out, ← HK.out]
          unfold st3
          by_cases c0 : f t % 3 = 0
          · rw [if_pos c0]
            exact .inl ⟨by omega, HM.out wr b _ _ _ hok (by omega) hO⟩
          · rw [if_neg c0]
            by_cases c1 : f t % 3 = 1
            · rw [if_pos c1]
              exact .inr (.inl ⟨by omega, HA.out wr b _ _ _ hok (by omega) hO⟩)
            · rw [if_neg c1]
              exact .inr (.inr ⟨by omega, HB.out wr b _ _ _ hok (by omega) hO⟩)
        clear hO hok hok1 HM HA HB HLI HEN HOK HPB HST
        obtain ⟨s1, hs1⟩ : ∃ s1, run3 f σ0 (t + 1) = s1 := ⟨_, rfl⟩
        have HS1 : Hid (run3 f σ0 (t + 1) = s1) := hs1
        rw [hs1] at HLS HES h3 hxl
        clear hs1
        generalize s1.S.list = X at *
        generalize f t = fo at *
        generalize hxn : X.length = xl at *
        have HXL : Hid (X.length = xl) := hxn
        clear hxn
        rcases h3 with ⟨hr, HC⟩ | ⟨hr, HC⟩ | ⟨hr, HC⟩
        all_goals
          go_wp2_with fail
          refine HC.out.mono ?_
          rintro e w3 ⟨ra, rn, rc, rfl, hO3⟩
          have HL : Hid (Calls _ _ _ _ _) := HLS.out _ _ hO3
          clear hO3 HC HLS
          go_wp2_with fail
          refine HL.out.mono ?_
          rintro e w4 ⟨la, lc, rfl, hO4⟩
          have H4 : Hid (Own w w4 _) := hO4
          clear hO4 HL
          go_wp2
          go_loopw [47] (fun v47 wr2 => ∃ i : Nat, i ≤ xl ∧ v47 = .int .i64 i ∧ Own w wr2 [Row 38 1 (.slice la xl lc) xl (irow .u32 X), Store b s1 (50 + 1024 * (t + 1)), RSto bx σ0 50]) (fun v47 _ => xl - (intOf v47).toNat)
          case atStart => exact ⟨0, Nat.zero_le _, rfl, H4.out⟩
          case round =>
            obtain ⟨i, hi, rfl, hO⟩ := hrel
            clear H4
            by_cases hli : i < xl
            · have hli' : (i : Int) < (xl : Int) := by omega
              obtain ⟨id, hid⟩ : ∃ id, X[i]? = some id := ⟨_, List.getElem?_eq_getElem (by rw [HXL.out]; exact hli)⟩
              obtain ⟨g, cp, hv, _⟩ := row_shape hO.row (by omega)
              have hla := (Value.slice.inj hv).1
              subst hla
              have e1 := hO.row.cellAt i (by omega)
              rw [getElem?_irow, hid] at e1
              simp only [Option.map_some] at e1
              obtain ⟨c0, c6, ck, hE⟩ := HES.out id (List.mem_of_getElem? hid)
              have HE : Hid (Calls _ _ _ _ _) := hE _ _ _ hO.two
              clear hO hid hv hE
              generalize s1.cps id = C at *
              generalize hcl : C.length = cl at *
              have HCL : Hid (C.length = cl) := hcl
              clear hcl
              go_wp2_with fail
              refine HE.out.mono ?_
              rintro e w5 ⟨ca, cc, rfl, hO5⟩
              have hO6 := hO5.allocC #[.int .u32 (id : Int), .slice ca cl cc] 41
              have x1 := hO6.cell 1
              simp at x1
              have HRL : Hid (Calls _ _ _ _ _) := rlist_any _ ca cl cc C HCL.out (Own.rcs3 hO6.two HCL.out) ck (by omega)
              rw [c0] at HRL
              have H6 : Hid (Own w _ _) := hO6
              clear hO5 hO6 HE
              go_wp2_with fail
              refine HRL.out.mono ?_
              rintro e w7 ⟨rfl, hf7⟩
              have H7 : Hid (Own w w7 _) := (H6.out.quiet hf7).tail.tail.two
              clear hf7 HRL H6
              go_wp2
              go_roundw
              case rel => exact ⟨i + 1, by omega, by go_num, H7.out⟩
              case measure => simp [intOf]; omega
            · have hli' : ¬ (i : Int) < (xl : Int) := by omega
              have H5 : Hid (Own w wr _) := hO.tail
              clear hO
              go_wp2
              go_roundw
              case rel => exact ⟨t + 1, by omega, by omega, by go_num, by rw [HS1.out]; exact H5.out⟩
              case measure => simp [intOf]; omega
    · have hlt' : ¬ (t : Int) < (ol : Int) := by omega
      have HX : Hid (Own w wr _) := hO
      clear hO
      go_wp2
      go_ret
      exact ⟨rfl, HX.out.fr⟩
theorem systemsWithin_walk (w : World) (ht : Tab w) (a0 : Int) (w0 : ok8 a0) (a1 : Option Addr) (len1 cap1 : Nat) (z1 : List LsE) (w1 : IsLss w a1 len1 cap1 z1) (a2 : Option Addr) (len2 cap2 : Nat) (z2 : List Int) (w2 : IsRow .u8 w a2 len2 cap2 z2) :
    Calls Tryd.prog 6 #[.int .u8 a0, .slice a1 len1 cap1, .slice a2 len2 cap2] w fun e w' => e = .returned (.bool true) ∧ Below w.heap.size w w' := by
  obtain ⟨h1, h2⟩ := w1.lss
  obtain ⟨m, rfl, hm⟩ := ok8_nat w0
  obtain ⟨p1, p2, p3, p4⟩ := w2.ints
  refine (systemsWithin_fr w ht m hm a1 len1 cap1 z1 w1.1 w1.2.1 w1.2.2.1 h1 h2 a2 len2 cap2 _ p1 p2 p3 p4).mono ?_
  rintro e w' ⟨rfl, hf⟩
  exact ⟨rfl, hf.below (Nat.le_refl _) (fun _ _ h => h)⟩
theorem laidOut : laidOutB Tryd.prog = true := by kernel_rfl

set_option maxRecDepth 100000 in
theorem systemsWithin_lifted (os : Os) (started : os.Started) (H : Type) (enc : TypeId × Value → H) :
    ReturnsInHanded {} Tryd.checked os 6 .any (fun w args => (Rows.systemsWithinSpec.pre enc Tryd.prog Tryd.f6 [] false w args ∧ laidMetH Tryd.prog laid1 w) ∧ sizedMet enc Tryd.prog Tryd.f6 (OpenSpec.ofChange Rows.systemsWithinSpec) false w args) (Rows.systemsWithinSpec.post enc Tryd.prog Tryd.f6 false true false false) := by
  refine returnsInHanded_of_change_and (C := Tryd.checked) (X := fun w _ => laidMetH Tryd.prog laid1 w) (fun _ _ _ hh h => h.of_heap hh) own started (by kernel_rfl) Tryd.func6
    (ChangeSpec.witness_shaped (enc := enc) (C := Tryd.checked) (os := os) (X := fun w _ => laidMetH Tryd.prog laid1 w) false (World.doorLaid Tryd.prog 400 os) #[.int .u8 0, .slice none 0 0, .slice none 0 0] 8 rfl (World.shaped_of_RefB (by kernel_rfl) (by kernel_rfl)) (by kernel_rfl) (by kernel_rfl) (by kernel_rfl) (door_met os _)) ?_
  intro W base args ds gs before hval0 hW _ _ hL _
  have hval : ∀ (j : Nat) t v, Tryd.f6.params[j]? = some t → args[j]? = some v → Value.okWide Tryd.prog W .any base t v := hval0
  have hW' := hW
  obtain ⟨p, q, hA0, hV, rfl, hfz, hnd⟩ := hW
  have hA : DataW.TrodAll enc Tryd.prog W 0 (fun _ => true) true Tryd.f6.params.toList args.toList ds p := hA0
  rw [Tryd.params6] at hA hval
  obtain ⟨v0, vs0, d0, ds0, p0, q0, hargs, rfl, rfl, h0, r0⟩ := trodAll_cons hA
  obtain ⟨v1, vs1, d1, ds1, p1, q1, rfl, rfl, rfl, h1, r1⟩ := trodAll_cons r0
  obtain ⟨v2, vs2, d2, ds2, p2, q2, rfl, rfl, rfl, h2, r2⟩ := trodAll_cons r1
  obtain ⟨rfl, rfl, rfl⟩ := trodAll_nil r2
  obtain rfl : args = #[v0, v1, v2] := by cases args; simp_all
  obtain ⟨rfl, rfl⟩ := trodVars_none hV
  obtain ⟨a0, rfl, rfl, rfl, w0⟩ := open_int Tryd.underlying5 (hval 0 5 v0 rfl rfl) h0
  obtain ⟨a1, len1, cap1, rfl⟩ := okWide_slice Tryd.underlying22 (hval 1 22 v1 rfl rfl)
  have k1 := h1
  have lt1 : ∀ x ∈ p1, x.block < W.heap.size := by obtain ⟨m, hm⟩ := k1; exact DataW.trod_lt m _ _ _ hm
  obtain ⟨z1, w1⟩ := open_ops (hval 1 22 _ rfl rfl) h1
  obtain ⟨a2, len2, cap2, rfl⟩ := okWide_slice Tryd.underlying35 (hval 2 35 v2 rfl rfl)
  have k2 := h2
  have lt2 : ∀ x ∈ p2, x.block < W.heap.size := by obtain ⟨m, hm⟩ := k2; exact DataW.trod_lt m _ _ _ hm
  obtain ⟨z2, w2⟩ : ∃ zs, IsRow .u8 W a2 len2 cap2 zs := by
    obtain ⟨fuel, hf⟩ := h2
    rcases open_ints Tryd.underlying35 Tryd.underlying5 (by kernel_rfl) hf with ⟨hcs, _⟩ | ⟨x, l, c, zs, hcs, _, hl, hm, hz, _, hcell, hwz⟩
    · simp [Value.cells] at hcs
      obtain ⟨rfl, rfl, rfl⟩ := hcs
      exact ⟨[], .inl ⟨rfl, rfl, rfl, rfl⟩⟩
    · simp [Value.cells] at hcs
      obtain ⟨rfl, rfl, rfl⟩ := hcs
      exact ⟨zs, .inr ⟨_, rfl, hl, hm, by simpa using hz, hcell, hwz⟩⟩
  clear hA0 hval0
  refine (systemsWithin_walk W (of_laid hL) a0 w0 a1 len1 cap1 z1 w1 a2 len2 cap2 z2 w2).mono fun e W' ⟨he, bel⟩ => ?_
  subst he
  exact ⟨_, rfl, _, _, _, [], _, [], hW', trodAll_mk1 (shut_bool Tryd.underlying4 _), (trodAll_cons_mk (shut_int Tryd.underlying5 w0) (trodAll_cons_mk (Below.trod laidOut (by kernel_rfl) (of_decide_eq_true (by kernel_rfl)) k1 bel lt1) (trodAll_cons_mk (Below.trod laidOut (by kernel_rfl) (of_decide_eq_true (by kernel_rfl)) k2 bel lt2) trodAll_mk0))), rfl, bel.frame _, fun h => by cases h⟩

theorem systemsWithin_row : Rows.SystemsWithinSaid :=
  OpenClaim.holds_of_wide 6 Tryd.f6 rfl rfl rfl rfl rfl rfl rfl ⟨rfl, rfl, rfl, rfl, rfl⟩ rfl rfl rfl rfl rfl (by kernel_rfl) Tryd.func6 (by kernel_rfl)
    (of_decide_eq_true (by kernel_rfl)) (by unfold Func.isWrapper; first | (rw [if_pos (by decide +kernel)]; kernel_rfl) | (rw [if_neg (by decide +kernel)]; exact ⟨rfl, rfl⟩))
    (fun os started H enc _ => systemsWithin_lifted os started H enc)

theorem systemsWithin_holds : Rows.SystemsWithinCardSaid :=
  Claim7.holds_tied_plain_at .later [] [.data] true (true, "0a9b033f652b79ce607060986c2ff617c9b5fd6426845a374dc41de3066fb514") false
    systemsWithin_row (fun _ h => by cases h) (by kernel_rfl) (fun _ h => by cases h) systemsWithin_row_tie rfl ⟨rfl, rfl⟩ (by kernel_rfl) rfl
    (fun f fn hf hfn => by
      obtain rfl : f = 6 := Option.some.inj ((show Tryd.prog.funcNamed "pinnace/pinnacelaw14.SystemsWithin" = some 6 by kernel_rfl).symm.trans hf) |>.symm
      obtain rfl : fn = Tryd.f6 := (Option.some.inj (Tryd.func6.symm.trans hfn)).symm
      exact ⟨by kernel_rfl, fun j t ht => by
        rw [Tryd.params6] at ht
        have hm : t ∈ [5, 22, 35] := by simpa using Array.mem_of_getElem? ht
        have hall : ([5, 22, 35].all fun u => !Tryd.prog.wantsStandIn u) = true := by kernel_rfl
        exact (show Tryd.prog.wantsStandIn t = false by simpa using List.all_eq_true.1 hall t hm)⟩)
    (by kernel_rfl)

end Go.Proofs.YtehancopmpcpmaaDoor
