/-
  Sorting IDs: the whole.
-/
import Derived.Test.YthokgjkgfolojabDoorSod
import Derived.Test.YthokgjkgfolojabDoorSoe
import Derived.Test.YthokgjkgfolojabDoorSof
import Derived.Test.YthokgjkgfolojabDoorSog
import Derived.Test.YthokgjkgfolojabDoorSoi
import Derived.Test.YthokgjkgfolojabDoorSoj
namespace Go.Proofs.YthokgjkgfolojabDoor
open Go.RowKit Go.Sort
set_option linter.unusedVariables false
set_option maxRecDepth 100000

theorem part_any (w0 w : World) (l : List Thing) (g n cap : Nat) (d : Array Int) (a b pv : Nat) (h : Own w0 w (SR g n cap d :: l)) (hap : a ≤ pv) (hpb : pv < b) (hb : b ≤ n) (hn : n < 1000000) :
    Calls Tryd.prog 46 #[.slice (some ⟨g, 0, none⟩) n cap, .int .i64 (a : Int), .int .i64 (b : Int), .int .i64 (pv : Int)] w fun e w' => ∃ (bb : Bool) (mid : Nat) (d' : Array Int) (ap : Bool), e = .returned (.tuple #[.int .i64 (mid : Int), .bool bb]) ∧ partition ltInt d a b pv = (mid, ap, d') ∧ Own w0 w' (SR g n cap d' :: l) := by
  have key : ∀ (e : Ending) (w' : World), (∃ (bb : Bool) (mid : Nat), e = .returned (.tuple #[.int .i64 (mid : Int), .bool bb]) ∧ ∃ d', Own w0 w' (SR g n cap d' :: l) ∧ ((mid : Int) = ((partition ltInt d a b pv).1 : Int) ∧ d' = (partition ltInt d a b pv).2.2)) → ∃ (bb : Bool) (mid : Nat) (d' : Array Int) (ap : Bool), e = .returned (.tuple #[.int .i64 (mid : Int), .bool bb]) ∧ partition ltInt d a b pv = (mid, ap, d') ∧ Own w0 w' (SR g n cap d' :: l) := by
    rintro e w' ⟨bb, mid, rfl, d', hO, hm, rfl⟩
    have hm' : mid = (partition ltInt d a b pv).1 := by omega
    subst hm'
    exact ⟨bb, _, _, (partition ltInt d a b pv).2.1, rfl, rfl, hO⟩
  by_cases e : pv = a
  · subst e
    exact (part_eq w0 w l g n cap d pv b (b - 1) h (by show b = _; omega) (by omega) (by omega) (by omega) (by omega) hn).mono key
  · exact (part_ne w0 w l g n cap d a b (b - 1) pv h (by show b = _; omega) (by omega) (by omega) (by omega) (by omega) (by omega) e (fun q => e q.symm) hn).mono key
theorem pequ_any (w0 w : World) (l : List Thing) (g n cap : Nat) (d : Array Int) (a b pv : Nat) (h : Own w0 w (SR g n cap d :: l)) (hap : a ≤ pv) (hpb : pv < b) (hb : b ≤ n) (hn : n < 1000000) :
    Calls Tryd.prog 45 #[.slice (some ⟨g, 0, none⟩) n cap, .int .i64 (a : Int), .int .i64 (b : Int), .int .i64 (pv : Int)] w fun e w' => ∃ (mid : Nat) (d' : Array Int), e = .returned (.int .i64 (mid : Int)) ∧ partitionEqual ltInt d a b pv = (mid, d') ∧ Own w0 w' (SR g n cap d' :: l) := by
  have key : ∀ (e : Ending) (w' : World), (∃ (mid : Nat), e = .returned (.int .i64 (mid : Int)) ∧ ∃ d', Own w0 w' (SR g n cap d' :: l) ∧ ((mid : Int) = ((partitionEqual ltInt d a b pv).1 : Int) ∧ d' = (partitionEqual ltInt d a b pv).2)) → ∃ (mid : Nat) (d' : Array Int), e = .returned (.int .i64 (mid : Int)) ∧ partitionEqual ltInt d a b pv = (mid, d') ∧ Own w0 w' (SR g n cap d' :: l) := by
    rintro e w' ⟨mid, rfl, d', hO, hm, rfl⟩
    have hm' : mid = (partitionEqual ltInt d a b pv).1 := by omega
    subst hm'
    exact ⟨_, _, rfl, rfl, hO⟩
  by_cases e : pv = a
  · subst e
    exact (pequ_eq w0 w l g n cap d pv b (b - 1) h (by show b = _; omega) (by omega) (by omega) (by omega) (by omega) hn).mono key
  · exact (pequ_ne w0 w l g n cap d a b (b - 1) pv h (by show b = _; omega) (by omega) (by omega) (by omega) (by omega) (by omega) e (fun q => e q.symm) hn).mono key
/-- two parts of a body with what lies between them: whatever way leads there, from there it is gone on once -/
theorem wp_cut3 {P : Program} {c1 c2 c3 : Code} {Q : Exit → Act → World → Prop} {a : Act} {w : World} (R : Act → World → Prop) (h2 : ∀ a w, R a w → c3.wp P Q a w)
    (h1 : ∀ Ka : Act → World → Prop, (∀ a w, c2.wp P (Exit.then R Q) a w → Ka a w) → c1.wp P (Exit.then Ka Q) a w) : (Code.seq c1 (Code.seq c2 c3)).wp P Q a w := by
  refine wp_seq_k fun K hK => ?_
  refine h1 K fun a w h => hK a w (wp_seq (wp_mono h ?_))
  intro e a w hq
  cases e <;> first | exact h2 _ _ hq | exact hq
/-- where the sort stands: what is to be sorted yet, and what that leads to -/
def Sg (a b : Nat) (d : Array Int) (a' b' : Nat) (D : Array Int) : Prop := Go.Sort.Below ltInt a' b' D ∧ ∀ R, PermIn a' b' D R → SortedIn ltInt a' b' R → PermIn a b d R ∧ SortedIn ltInt a b R
theorem Sg.perm {a b a' b' : Nat} {d D D' : Array Int} (h : Sg a b d a' b' D) (hb : b' ≤ D.size) (hp : PermIn a' b' D D') : Sg a b d a' b' D' :=
  ⟨h.1.perm hb hp, fun R h1 h2 => h.2 R (permIn_trans _ _ _ _ _ hp h1) h2⟩
set_option maxHeartbeats 64000000 in
theorem pdq_ok (w0 : World) (l : List Thing) (g n cap : Nat) (hn : n < 256) : ∀ (m : Nat) (w : World) (d : Array Int) (a b lim : Nat), lim ≤ 100 → b - a ≤ m → a ≤ b → b ≤ n → Go.Sort.Below ltInt a b d → Own w0 w (SR g n cap d :: l) →
    Calls Tryd.prog 35 #[.slice (some ⟨g, 0, none⟩) n cap, .int .i64 (a : Int), .int .i64 (b : Int), .int .i64 (lim : Int)] w fun e w' => e = .returned (.tuple #[]) ∧ ∃ d', PermIn a b d d' ∧ SortedIn ltInt a b d' ∧ Own w0 w' (SR g n cap d' :: l) := by
  intro m
  induction m using Nat.strongRecOn with
  | ind m IH =>
  have ih : ∀ (m' : Nat), m' < m → ∀ (w : World) (d : Array Int) (a b lim : Nat), lim ≤ 100 → b - a ≤ m' → a ≤ b → b ≤ n → Go.Sort.Below ltInt a b d → Own w0 w (SR g n cap d :: l) →
    Calls Tryd.prog 35 #[.slice (some ⟨g, 0, none⟩) n cap, .int .i64 (a : Int), .int .i64 (b : Int), .int .i64 (lim : Int)] w fun e w' => e = .returned (.tuple #[]) ∧ ∃ d', PermIn a b d d' ∧ SortedIn ltInt a b d' ∧ Own w0 w' (SR g n cap d' :: l) := IH
  clear IH
  intro w d a b lim hlim hm hab hbn hBel h
  have H : Hid (Own w0 w (SR g n cap d :: l)) := h
  have HS0 : Hid (Sg a b d a b d) := ⟨hBel, fun R h1 h2 => ⟨h1, h2⟩⟩
  have IHH : Hid (∀ (m' : Nat), m' < m → ∀ (w : World) (d : Array Int) (a b lim : Nat), lim ≤ 100 → b - a ≤ m' → a ≤ b → b ≤ n → Go.Sort.Below ltInt a b d → Own w0 w (SR g n cap d :: l) →
    Calls Tryd.prog 35 #[.slice (some ⟨g, 0, none⟩) n cap, .int .i64 (a : Int), .int .i64 (b : Int), .int .i64 (lim : Int)] w fun e w' => e = .returned (.tuple #[]) ∧ ∃ d', PermIn a b d d' ∧ SortedIn ltInt a b d' ∧ Own w0 w' (SR g n cap d' :: l)) := ih
  clear h hBel ih
  go_enter Tryd.func35, Tryd.ntmps35
  go_wp2
  go_loopw [1, 2, 3, 8, 9] (fun v1 v2 v3 v8 v9 wr => ∃ (p q : Nat) (lim : Nat) (wb wp : Bool) (D : Array Int), v1 = .int .i64 (p : Int) ∧ v2 = .int .i64 (q : Int) ∧ (v3 = .int .i64 (lim : Int) ∧ lim ≤ 100) ∧ v8 = .bool wb ∧ v9 = .bool wp ∧ a ≤ p ∧ p ≤ q ∧ q ≤ b ∧ Sg a b d p q D ∧ Own w0 wr (SR g n cap D :: l)) (fun v1 v2 _ _ _ _ => (iOf v2 - iOf v1).toNat)
  case atStart => exact ⟨a, b, lim, true, true, d, rfl, rfl, ⟨rfl, hlim⟩, rfl, rfl, Nat.le_refl _, hab, Nat.le_refl _, HS0.out, H.out⟩
  case round =>
    clear hlim
    obtain ⟨p, q, lim, wb, wp, D, rfl, rfl, ⟨rfl, hlim⟩, rfl, rfl, hap, hpq, hqb, hSG, hO⟩ := hrel
    have HO : Hid (Own w0 wr (SR g n cap D :: l)) := hO
    have HSG : Hid (Sg a b d p q D) := hSG
    have HSZ : Hid (D.size = n) := hO.srSize
    have hqn : q ≤ n := by omega
    obtain ⟨L, hL⟩ : ∃ L, L = q - p := ⟨_, rfl⟩
    have e0 : (q : Int) - (p : Int) = (L : Int) := by omega
    have hLs : L < 256 := by omega
    clear hO hSG H HS0
    by_cases hL12 : L ≤ 12
    · have hL12' : (L : Int) ≤ 12 := by omega
      have HI : Hid (Calls _ _ _ _ _) := insSort_fn w0 wr l g n cap D p q HO.out hpq hqn (by omega)
      clear IHH
      go_wp2_with fail
      refine HI.out.mono ?_
      rintro e W1 ⟨rfl, hO1⟩
      have HO1 : Hid (Own w0 W1 _) := hO1
      clear hO1 HI
      go_wp2
      refine bodyPost_ret (results_none rfl _ _ _) rfl ?_
      obtain ⟨i1, i2⟩ := insertionSort_holds swoInt D p q hpq (by rw [HSZ.out]; exact hqn)
      obtain ⟨j1, j2⟩ := HSG.out.2 _ i1 i2
      exact ⟨rfl, _, j1, j2, HO1.out⟩
    · have hL12' : ¬ (L : Int) ≤ 12 := by omega
      have hpq13 : p + 13 ≤ q := by omega
      obtain ⟨t8, ht8⟩ : ∃ t8, t8 = L / 8 := ⟨_, rfl⟩
      have e1 : (L : Int).tdiv 8 = (t8 : Int) := by rw [ht8]; exact (Int.ofNat_tdiv _ _).symm
      have ht8s : t8 < 256 := by omega
      clear ht8 hL
      rcases Nat.eq_zero_or_pos lim with hl0 | hl0
      · subst hl0
        have HI : Hid (Calls _ _ _ _ _) := heapSort_fn w0 wr l g n cap D p q HO.out (by omega) hqn (by omega)
        clear IHH
        go_wp2_with fail
        refine HI.out.mono ?_
        rintro e W1 ⟨rfl, hO1⟩
        have HO1 : Hid (Own w0 W1 _) := hO1
        clear hO1 HI
        go_wp2
        refine bodyPost_ret (results_none rfl _ _ _) rfl ?_
        obtain ⟨i1, i2⟩ := heapSort_holds swoInt D p q hpq (by rw [HSZ.out]; exact hqn)
        obtain ⟨j1, j2⟩ := HSG.out.2 _ i1 i2
        exact ⟨rfl, _, j1, j2, HO1.out⟩
      · have hl0' : ((lim : Int) == 0) = false := by rw [beq_eq_false_iff_ne]; omega
        cases wb with
        | false =>
          have HBK : Hid (Calls _ _ _ _ _) := break_ok w0 wr l g n cap D p q HO.out (by omega) hqn hn
          go_wp2_with fail
          refine HBK.out.mono ?_
          rintro e W1 ⟨rfl, D1, hPb, hO1⟩
          have HO1 : Hid (Own w0 W1 (SR g n cap D1 :: l)) := hO1
          have HSG1 : Hid (Sg a b d p q D1) := HSG.out.perm (by rw [HSZ.out]; exact hqn) hPb
          have HSZ1 : Hid (D1.size = n) := hO1.srSize
          obtain ⟨lm, hlm⟩ : ∃ lm, lim = lm + 1 := ⟨lim - 1, by omega⟩
          have elm : (lim : Int) - 1 = (lm : Int) := by omega
          have hlms : lm ≤ 100 := by omega
          clear hO1 HBK HO HSG HSZ hPb hlm
          have HSG := HSG1
          have HSZ := HSZ1
          clear HSG1 HSZ1
          have HCH : Hid (Calls _ _ _ _ _) := choose_ok w0 _ l g n cap D1 p q HO1.out (by omega) hqn (by omega)
          obtain ⟨R, hR⟩ : ∃ R : Act → World → Prop, R = fun a' w' => ∃ (pv : Nat) (D5 : Array Int), a' = { tmps := #[.slice (some ⟨g, 0, none⟩) n cap, .int .i64 (p : Int), .int .i64 (q : Int), .int .i64 (lm : Int), undef, undef, undef, undef, .bool false, .bool wp, .int .i64 (L : Int), .int .i64 (pv : Int), a'.tmps.getD 12 undef, a'.tmps.getD 13 undef, a'.tmps.getD 14 undef, a'.tmps.getD 15 undef, a'.tmps.getD 16 undef, a'.tmps.getD 17 undef, a'.tmps.getD 18 undef, a'.tmps.getD 19 undef, a'.tmps.getD 20 undef, a'.tmps.getD 21 undef, a'.tmps.getD 22 undef, a'.tmps.getD 23 undef, a'.tmps.getD 24 undef, a'.tmps.getD 25 undef, a'.tmps.getD 26 undef, a'.tmps.getD 27 undef, a'.tmps.getD 28 undef, a'.tmps.getD 29 undef, a'.tmps.getD 30 undef, a'.tmps.getD 31 undef, a'.tmps.getD 32 undef, a'.tmps.getD 33 undef, a'.tmps.getD 34 undef, a'.tmps.getD 35 undef, a'.tmps.getD 36 undef, a'.tmps.getD 37 undef, a'.tmps.getD 38 undef, a'.tmps.getD 39 undef, a'.tmps.getD 40 undef, a'.tmps.getD 41 undef, a'.tmps.getD 42 undef, a'.tmps.getD 43 undef, a'.tmps.getD 44 undef, a'.tmps.getD 45 undef, a'.tmps.getD 46 undef, a'.tmps.getD 47 undef, a'.tmps.getD 48 undef, a'.tmps.getD 49 undef, a'.tmps.getD 50 undef, a'.tmps.getD 51 undef, a'.tmps.getD 52 undef, a'.tmps.getD 53 undef, a'.tmps.getD 54 undef, a'.tmps.getD 55 undef, a'.tmps.getD 56 undef, a'.tmps.getD 57 undef, a'.tmps.getD 58 undef, a'.tmps.getD 59 undef, a'.tmps.getD 60 undef, a'.tmps.getD 61 undef, a'.tmps.getD 62 undef, a'.tmps.getD 63 undef, a'.tmps.getD 64 undef, a'.tmps.getD 65 undef, a'.tmps.getD 66 undef, a'.tmps.getD 67 undef, a'.tmps.getD 68 undef, a'.tmps.getD 69 undef, a'.tmps.getD 70 undef, a'.tmps.getD 71 undef, a'.tmps.getD 72 undef, a'.tmps.getD 73 undef, a'.tmps.getD 74 undef, a'.tmps.getD 75 undef, a'.tmps.getD 76 undef, a'.tmps.getD 77 undef, a'.tmps.getD 78 undef, a'.tmps.getD 79 undef, a'.tmps.getD 80 undef, a'.tmps.getD 81 undef, a'.tmps.getD 82 undef, a'.tmps.getD 83 undef, a'.tmps.getD 84 undef, a'.tmps.getD 85 undef, a'.tmps.getD 86 undef, a'.tmps.getD 87 undef, a'.tmps.getD 88 undef, a'.tmps.getD 89 undef, a'.tmps.getD 90 undef, a'.tmps.getD 91 undef, a'.tmps.getD 92 undef, a'.tmps.getD 93 undef, a'.tmps.getD 94 undef, a'.tmps.getD 95 undef, a'.tmps.getD 96 undef, a'.tmps.getD 97 undef, a'.tmps.getD 98 undef, a'.tmps.getD 99 undef, a'.tmps.getD 100 undef, a'.tmps.getD 101 undef, a'.tmps.getD 102 undef, a'.tmps.getD 103 undef, a'.tmps.getD 104 undef, a'.tmps.getD 105 undef, a'.tmps.getD 106 undef, a'.tmps.getD 107 undef, a'.tmps.getD 108 undef, a'.tmps.getD 109 undef, a'.tmps.getD 110 undef, a'.tmps.getD 111 undef, a'.tmps.getD 112 undef, a'.tmps.getD 113 undef, a'.tmps.getD 114 undef, a'.tmps.getD 115 undef, a'.tmps.getD 116 undef, a'.tmps.getD 117 undef, a'.tmps.getD 118 undef, a'.tmps.getD 119 undef, a'.tmps.getD 120 undef, a'.tmps.getD 121 undef, a'.tmps.getD 122 undef, a'.tmps.getD 123 undef, a'.tmps.getD 124 undef, a'.tmps.getD 125 undef, a'.tmps.getD 126 undef, a'.tmps.getD 127 undef, a'.tmps.getD 128 undef, a'.tmps.getD 129 undef, a'.tmps.getD 130 undef, a'.tmps.getD 131 undef, a'.tmps.getD 132 undef, a'.tmps.getD 133 undef], defers := [] } ∧ p ≤ pv ∧ pv < q ∧ Sg a b d p q D5 ∧ D5.size = n ∧ Own w0 w' (SR g n cap D5 :: l) := ⟨_, rfl⟩
          go_wp2_with fail
          rename_i K1 a1 K2 a2
          have HA1 : Hid _ := a1
          clear a1
          refine HCH.out.mono ?_
          rintro e W2 ⟨pv, t, rfl, hp1, hp2, ht, hO2⟩
          have HO2 : Hid (Own w0 W2 (SR g n cap D1 :: l)) := hO2
          clear hO2 HCH HO1
          go_wp2
          refine HA1.out _ _ ?_
          clear HA1
          refine wp_cut3 R ?rest ?_
          case rest =>
            intro a' w' hr
            rw [hR] at hr
            clear HSG HSZ HO2 hp1 hp2 ht hR
            clear R pv t
            obtain ⟨pv, D5, hact, hp1, hp2, hSG, hSZ, hO⟩ := hr
            obtain ⟨u, hu⟩ : ∃ u : Nat → Value, ∀ k, a'.tmps.getD k undef = u k := ⟨_, fun _ => rfl⟩
            simp only [hu] at hact
            clear hu
            subst hact
            have HSG : Hid (Sg a b d p q D5) := hSG
            have HSZ : Hid (D5.size = n) := hSZ
            have HO5 : Hid (Own w0 w' (SR g n cap D5 :: l)) := hO
            clear hSG hSZ hO
            rcases Nat.eq_zero_or_pos p with ha0 | ha0
            · obtain ⟨z, hz⟩ : ∃ z : Int, z = (p : Int) := ⟨_, rfl⟩
              have hz1 : ¬ (0 : Int) < z := by omega
              have hz2 : decide ((0 : Int) < z) = false := by simp; omega
              have HZ : Hid (z = (p : Int)) := hz
              rw [← hz]
              clear ha0 hz
              go_wp2
              go_quiet (first | (go_at_call 44; refine Calls.quiet_of_same (less_ok _ _ _)))
              generalize hWg : World.drewN _ nq = W5
              have hO5 : Own w0 W5 (SR g n cap D5 :: l) := by rw [← hWg]; exact HO5.out.drewN nq
              clear hWg HO5
              have HPT : Hid (Calls _ _ _ _ _) := part_any w0 _ l g n cap D5 p q pv hO5 hp1 hp2 hqn (by omega)
              rw [← HZ.out] at HPT
              clear hO5
              go_wp2_with fail
              refine HPT.out.mono ?_
              rintro e W6 ⟨bb, mid, d4, ap, rfl, hpt, hO6⟩
              obtain ⟨r1, r2, r3, r4, r5, r6, r7⟩ := round_part swoInt (partition_holds ltInt) hp1 hp2 (by rw [HSZ.out]; exact hqn) HSG.out.1 hpt
              have HR6 : Hid (∀ L, PermIn p mid d4 L → SortedIn ltInt p mid L → Sg a b d (mid + 1) q L) := fun L h1 h2 => ⟨(r6 L h1 h2).1, fun R h3 h4 => HSG.out.2 R ((r6 L h1 h2).2 R h3 h4).1 ((r6 L h1 h2).2 R h3 h4).2⟩
              have HR7 : Hid (∀ L, PermIn (mid + 1) q d4 L → SortedIn ltInt (mid + 1) q L → Sg a b d p mid L) := fun L h1 h2 => ⟨(r7 L h1 h2).1, fun R h3 h4 => HSG.out.2 R ((r7 L h1 h2).2 R h3 h4).1 ((r7 L h1 h2).2 R h3 h4).2⟩
              obtain ⟨ll, hll⟩ : ∃ ll, ll = mid - p := ⟨_, rfl⟩
              obtain ⟨rl, hrl⟩ : ∃ rl, rl = q - mid := ⟨_, rfl⟩
              have e8 : (mid : Int) - z = (ll : Int) := by have := HZ.out; omega
              have e9 : (q : Int) - (mid : Int) = (rl : Int) := by omega
              have hlls : ll < 256 := by omega
              have hrls : rl < 256 := by omega
              by_cases hlr : ll < rl
              · have hlr' : (ll : Int) < (rl : Int) := by omega
                have HIH : Hid (Calls _ _ _ _ _) := IHH.out (mid - p) (by omega) W6 d4 p mid lm hlms (Nat.le_refl _) r1 (by omega) r4 hO6
                rw [← HZ.out] at HIH
                clear hO6 HPT hpt r3 r4 r5 r6 r7 HR7 hll hrl
                go_wp2_with fail
                refine HIH.out.mono ?_
                rintro e W7 ⟨rfl, d5, hP5, hS5, hO7⟩
                have HO7 : Hid (Own w0 W7 _) := hO7
                have HG : Hid (Sg a b d (mid + 1) q d5) := HR6.out d5 hP5 hS5
                clear hO7 HIH HR6 hP5 hS5
                go_wp2
                go_roundw
                case rel => exact ⟨mid + 1, q, _, _, bb, d5, by go_num, rfl, ⟨rfl, hlms⟩, rfl, rfl, by omega, by omega, by omega, HG.out, HO7.out⟩
                case measure => have := HZ.out; simp [iOf]; omega
              · have hlr' : ¬ (ll : Int) < (rl : Int) := by omega
                have HIH : Hid (Calls _ _ _ _ _) := IHH.out (q - (mid + 1)) (by omega) W6 d4 (mid + 1) q lm hlms (Nat.le_refl _) (by omega) (by omega) r5 hO6
                clear hO6 HPT hpt r3 r4 r5 r6 r7 HR6 hll hrl
                go_wp2_with fail
                refine HIH.out.mono ?_
                rintro e W7 ⟨rfl, d5, hP5, hS5, hO7⟩
                have HO7 : Hid (Own w0 W7 _) := hO7
                have HG : Hid (Sg a b d p mid d5) := HR7.out d5 hP5 hS5
                clear hO7 HIH HR7 hP5 hS5
                go_wp2
                go_roundw
                case rel => exact ⟨p, mid, _, _, bb, d5, by rw [HZ.out], rfl, ⟨rfl, hlms⟩, rfl, rfl, by omega, by omega, by omega, HG.out, HO7.out⟩
                case measure => have := HZ.out; simp [iOf]; omega
            · obtain ⟨k, hk⟩ : ∃ k, p = k + 1 := ⟨p - 1, by omega⟩
              have ek : (p : Int) - 1 = (k : Int) := by omega
              have hz1 : (0 : Int) < (p : Int) := by omega
              have HK : Hid (p = k + 1) := hk
              have hkn : k < n := by omega
              have hpvn : pv < n := by omega
              have ck := HO5.out.srAt k hkn
              have cp := HO5.out.srAt pv hpvn
              obtain ⟨xk, hxk⟩ : ∃ x, x = D5[k]! := ⟨_, rfl⟩
              obtain ⟨xp, hxp⟩ : ∃ x, x = D5[pv]! := ⟨_, rfl⟩
              rw [← hxk] at ck
              rw [← hxp] at cp
              have HXK : Hid (xk = D5[k]!) := hxk
              have HXP : Hid (xp = D5[pv]!) := hxp
              clear hxk hxp hk
              go_wp2
              go_quiet (first | (go_at_call 44; refine Calls.quiet_of_same (less_ok _ _ _)))
              generalize hWg : World.drewN _ nq = W5
              have hO5 : Own w0 W5 (SR g n cap D5 :: l) := by rw [← hWg]; exact HO5.out.drewN nq
              clear hWg HO5 ck cp
              by_cases hl : ltInt xk xp = true
              · rw [hl, Bool.not_true]
                have HPT : Hid (Calls _ _ _ _ _) := part_any w0 _ l g n cap D5 p q pv hO5 hp1 hp2 hqn (by omega)
                clear hO5
                go_wp2_with fail
                refine HPT.out.mono ?_
                rintro e W6 ⟨bb, mid, d4, ap, rfl, hpt, hO6⟩
                obtain ⟨r1, r2, r3, r4, r5, r6, r7⟩ := round_part swoInt (partition_holds ltInt) hp1 hp2 (by rw [HSZ.out]; exact hqn) HSG.out.1 hpt
                have HR6 : Hid (∀ L, PermIn p mid d4 L → SortedIn ltInt p mid L → Sg a b d (mid + 1) q L) := fun L h1 h2 => ⟨(r6 L h1 h2).1, fun R h3 h4 => HSG.out.2 R ((r6 L h1 h2).2 R h3 h4).1 ((r6 L h1 h2).2 R h3 h4).2⟩
                have HR7 : Hid (∀ L, PermIn (mid + 1) q d4 L → SortedIn ltInt (mid + 1) q L → Sg a b d p mid L) := fun L h1 h2 => ⟨(r7 L h1 h2).1, fun R h3 h4 => HSG.out.2 R ((r7 L h1 h2).2 R h3 h4).1 ((r7 L h1 h2).2 R h3 h4).2⟩
                obtain ⟨ll, hll⟩ : ∃ ll, ll = mid - p := ⟨_, rfl⟩
                obtain ⟨rl, hrl⟩ : ∃ rl, rl = q - mid := ⟨_, rfl⟩
                have e8 : (mid : Int) - (p : Int) = (ll : Int) := by omega
                have e9 : (q : Int) - (mid : Int) = (rl : Int) := by omega
                have hlls : ll < 256 := by omega
                have hrls : rl < 256 := by omega
                by_cases hlr : ll < rl
                · have hlr' : (ll : Int) < (rl : Int) := by omega
                  have HIH : Hid (Calls _ _ _ _ _) := IHH.out (mid - p) (by omega) W6 d4 p mid lm hlms (Nat.le_refl _) r1 (by omega) r4 hO6
                  clear hO6 HPT hpt r3 r4 r5 r6 r7 HR7 hll hrl
                  go_wp2_with fail
                  refine HIH.out.mono ?_
                  rintro e W7 ⟨rfl, d5, hP5, hS5, hO7⟩
                  have HO7 : Hid (Own w0 W7 _) := hO7
                  have HG : Hid (Sg a b d (mid + 1) q d5) := HR6.out d5 hP5 hS5
                  clear hO7 HIH HR6 hP5 hS5
                  go_wp2
                  go_roundw
                  case rel => exact ⟨mid + 1, q, _, _, bb, d5, by go_num, rfl, ⟨rfl, hlms⟩, rfl, rfl, by omega, by omega, by omega, HG.out, HO7.out⟩
                  case measure => simp [iOf]; omega
                · have hlr' : ¬ (ll : Int) < (rl : Int) := by omega
                  have HIH : Hid (Calls _ _ _ _ _) := IHH.out (q - (mid + 1)) (by omega) W6 d4 (mid + 1) q lm hlms (Nat.le_refl _) (by omega) (by omega) r5 hO6
                  clear hO6 HPT hpt r3 r4 r5 r6 r7 HR6 hll hrl
                  go_wp2_with fail
                  refine HIH.out.mono ?_
                  rintro e W7 ⟨rfl, d5, hP5, hS5, hO7⟩
                  have HO7 : Hid (Own w0 W7 _) := hO7
                  have HG : Hid (Sg a b d p mid d5) := HR7.out d5 hP5 hS5
                  clear hO7 HIH HR7 hP5 hS5
                  go_wp2
                  go_roundw
                  case rel => exact ⟨p, mid, _, _, bb, d5, rfl, rfl, ⟨rfl, hlms⟩, rfl, rfl, by omega, by omega, by omega, HG.out, HO7.out⟩
                  case measure => simp [iOf]; omega
              · rw [Bool.not_eq_true] at hl
                rw [hl, Bool.not_false]
                have HPT : Hid (Calls _ _ _ _ _) := pequ_any w0 _ l g n cap D5 p q pv hO5 hp1 hp2 hqn (by omega)
                have HL2 : Hid (ltInt D5[p - 1]! D5[pv]! = false) := by
                  show _ = _
                  rw [HK.out, Nat.add_sub_cancel, ← HXK.out, ← HXP.out]
                  exact hl
                clear hO5
                go_wp2_with fail
                refine HPT.out.mono ?_
                rintro e W6 ⟨mid, d4, rfl, hpt, hO6⟩
                obtain ⟨r1, r2, r3, r4, r5⟩ := round_eq swoInt (partitionEqual_holds ltInt) (by omega) hp1 hp2 (by rw [HSZ.out]; exact hqn) HSG.out.1 HL2.out hpt
                have HG : Hid (Sg a b d mid q d4) := ⟨r4, fun R h1 h2 => HSG.out.2 R (r5 R h1 h2).1 (r5 R h1 h2).2⟩
                have HO7 : Hid (Own w0 W6 _) := hO6
                clear hO6 HPT hpt r3 r4 r5 HL2
                go_wp2
                go_roundw
                case rel => exact ⟨mid, q, _, _, _, d4, rfl, rfl, ⟨rfl, hlms⟩, rfl, rfl, by omega, by omega, by omega, HG.out, HO7.out⟩
                case measure => simp [iOf]; omega
          intro Ka ha
          have HR : Hid (R = _) := hR
          clear hR
          by_cases ht2 : t = 2
          · subst ht2
            have HRV : Hid (Calls _ _ _ _ _) := revRange_ok w0 _ l g n cap D1 p q HO2.out (by omega) hqn (by omega)
            clear ht
            go_wp2_with fail
            refine HRV.out.mono ?_
            rintro e W3 ⟨rfl, D2, hPr, hO3⟩
            have HO3 : Hid (Own w0 W3 (SR g n cap D2 :: l)) := hO3
            have HSG2 : Hid (Sg a b d p q D2) := HSG.out.perm (by rw [HSZ.out]; exact hqn) hPr
            have HSZ2 : Hid (D2.size = n) := hO3.srSize
            clear hO3 HRV HO2 HSG HSZ hPr
            have HSG := HSG2
            have HSZ := HSZ2
            clear HSG2 HSZ2
            obtain ⟨pv2, hpv2⟩ : ∃ pv2 : Nat, (q : Int) - 1 - ((pv : Int) - (p : Int)) = (pv2 : Int) := ⟨q - 1 - (pv - p), by omega⟩
            have e7 : (q : Int) - 1 - ((pv : Int) - (p : Int)) = (pv2 : Int) := hpv2
            have hp3 : p ≤ pv2 := by omega
            have hp4 : pv2 < q := by omega
            obtain ⟨u1, hu1⟩ : ∃ u1 : Nat, (q : Int) - 1 = (u1 : Int) := ⟨q - 1, by omega⟩
            obtain ⟨u2, hu2⟩ : ∃ u2 : Nat, (pv : Int) - (p : Int) = (u2 : Int) := ⟨pv - p, by omega⟩
            rw [hu1, hu2] at e7
            have hu1s : u1 < 256 := by omega
            have hu2s : u2 < 256 := by omega
            clear hpv2 hp1 hp2
            go_wp2
            rw [HR.out]
            exact ⟨pv2, D2, by rfl, hp3, hp4, HSG.out, HSZ.out, HO3.out⟩
          · have ht2' : (t == 2) = false := by rw [beq_eq_false_iff_ne]; exact ht2
            go_wp2
            rw [HR.out]
            exact ⟨pv, D1, by rfl, hp1, hp2, HSG.out, HSZ.out, HO2.out⟩
        | true =>
          have HCH : Hid (Calls _ _ _ _ _) := choose_ok w0 _ l g n cap D p q HO.out (by omega) hqn (by omega)
          obtain ⟨R, hR⟩ : ∃ R : Act → World → Prop, R = fun a' w' => ∃ (pv : Nat) (D5 : Array Int), a' = { tmps := #[.slice (some ⟨g, 0, none⟩) n cap, .int .i64 (p : Int), .int .i64 (q : Int), .int .i64 (lim : Int), undef, undef, undef, undef, .bool true, .bool wp, .int .i64 (L : Int), .int .i64 (pv : Int), a'.tmps.getD 12 undef, a'.tmps.getD 13 undef, a'.tmps.getD 14 undef, a'.tmps.getD 15 undef, a'.tmps.getD 16 undef, a'.tmps.getD 17 undef, a'.tmps.getD 18 undef, a'.tmps.getD 19 undef, a'.tmps.getD 20 undef, a'.tmps.getD 21 undef, a'.tmps.getD 22 undef, a'.tmps.getD 23 undef, a'.tmps.getD 24 undef, a'.tmps.getD 25 undef, a'.tmps.getD 26 undef, a'.tmps.getD 27 undef, a'.tmps.getD 28 undef, a'.tmps.getD 29 undef, a'.tmps.getD 30 undef, a'.tmps.getD 31 undef, a'.tmps.getD 32 undef, a'.tmps.getD 33 undef, a'.tmps.getD 34 undef, a'.tmps.getD 35 undef, a'.tmps.getD 36 undef, a'.tmps.getD 37 undef, a'.tmps.getD 38 undef, a'.tmps.getD 39 undef, a'.tmps.getD 40 undef, a'.tmps.getD 41 undef, a'.tmps.getD 42 undef, a'.tmps.getD 43 undef, a'.tmps.getD 44 undef, a'.tmps.getD 45 undef, a'.tmps.getD 46 undef, a'.tmps.getD 47 undef, a'.tmps.getD 48 undef, a'.tmps.getD 49 undef, a'.tmps.getD 50 undef, a'.tmps.getD 51 undef, a'.tmps.getD 52 undef, a'.tmps.getD 53 undef, a'.tmps.getD 54 undef, a'.tmps.getD 55 undef, a'.tmps.getD 56 undef, a'.tmps.getD 57 undef, a'.tmps.getD 58 undef, a'.tmps.getD 59 undef, a'.tmps.getD 60 undef, a'.tmps.getD 61 undef, a'.tmps.getD 62 undef, a'.tmps.getD 63 undef, a'.tmps.getD 64 undef, a'.tmps.getD 65 undef, a'.tmps.getD 66 undef, a'.tmps.getD 67 undef, a'.tmps.getD 68 undef, a'.tmps.getD 69 undef, a'.tmps.getD 70 undef, a'.tmps.getD 71 undef, a'.tmps.getD 72 undef, a'.tmps.getD 73 undef, a'.tmps.getD 74 undef, a'.tmps.getD 75 undef, a'.tmps.getD 76 undef, a'.tmps.getD 77 undef, a'.tmps.getD 78 undef, a'.tmps.getD 79 undef, a'.tmps.getD 80 undef, a'.tmps.getD 81 undef, a'.tmps.getD 82 undef, a'.tmps.getD 83 undef, a'.tmps.getD 84 undef, a'.tmps.getD 85 undef, a'.tmps.getD 86 undef, a'.tmps.getD 87 undef, a'.tmps.getD 88 undef, a'.tmps.getD 89 undef, a'.tmps.getD 90 undef, a'.tmps.getD 91 undef, a'.tmps.getD 92 undef, a'.tmps.getD 93 undef, a'.tmps.getD 94 undef, a'.tmps.getD 95 undef, a'.tmps.getD 96 undef, a'.tmps.getD 97 undef, a'.tmps.getD 98 undef, a'.tmps.getD 99 undef, a'.tmps.getD 100 undef, a'.tmps.getD 101 undef, a'.tmps.getD 102 undef, a'.tmps.getD 103 undef, a'.tmps.getD 104 undef, a'.tmps.getD 105 undef, a'.tmps.getD 106 undef, a'.tmps.getD 107 undef, a'.tmps.getD 108 undef, a'.tmps.getD 109 undef, a'.tmps.getD 110 undef, a'.tmps.getD 111 undef, a'.tmps.getD 112 undef, a'.tmps.getD 113 undef, a'.tmps.getD 114 undef, a'.tmps.getD 115 undef, a'.tmps.getD 116 undef, a'.tmps.getD 117 undef, a'.tmps.getD 118 undef, a'.tmps.getD 119 undef, a'.tmps.getD 120 undef, a'.tmps.getD 121 undef, a'.tmps.getD 122 undef, a'.tmps.getD 123 undef, a'.tmps.getD 124 undef, a'.tmps.getD 125 undef, a'.tmps.getD 126 undef, a'.tmps.getD 127 undef, a'.tmps.getD 128 undef, a'.tmps.getD 129 undef, a'.tmps.getD 130 undef, a'.tmps.getD 131 undef, a'.tmps.getD 132 undef, a'.tmps.getD 133 undef], defers := [] } ∧ p ≤ pv ∧ pv < q ∧ Sg a b d p q D5 ∧ D5.size = n ∧ Own w0 w' (SR g n cap D5 :: l) := ⟨_, rfl⟩
          go_wp2_with fail
          rename_i K1 a1 K2 a2
          have HA1 : Hid _ := a1
          clear a1
          refine HCH.out.mono ?_
          rintro e W2 ⟨pv, t, rfl, hp1, hp2, ht, hO2⟩
          have HO2 : Hid (Own w0 W2 (SR g n cap D :: l)) := hO2
          clear hO2 HCH HO
          go_wp2
          refine HA1.out _ _ ?_
          clear HA1
          refine wp_cut3 R ?rest ?_
          case rest =>
            intro a' w' hr
            rw [hR] at hr
            clear HSG HSZ HO2 hp1 hp2 ht hR
            clear R pv t
            obtain ⟨pv, D5, hact, hp1, hp2, hSG, hSZ, hO⟩ := hr
            obtain ⟨u, hu⟩ : ∃ u : Nat → Value, ∀ k, a'.tmps.getD k undef = u k := ⟨_, fun _ => rfl⟩
            simp only [hu] at hact
            clear hu
            subst hact
            have HSG : Hid (Sg a b d p q D5) := hSG
            have HSZ : Hid (D5.size = n) := hSZ
            have HO5 : Hid (Own w0 w' (SR g n cap D5 :: l)) := hO
            clear hSG hSZ hO
            rcases Nat.eq_zero_or_pos p with ha0 | ha0
            · obtain ⟨z, hz⟩ : ∃ z : Int, z = (p : Int) := ⟨_, rfl⟩
              have hz1 : ¬ (0 : Int) < z := by omega
              have hz2 : decide ((0 : Int) < z) = false := by simp; omega
              have HZ : Hid (z = (p : Int)) := hz
              rw [← hz]
              clear ha0 hz
              go_wp2
              go_quiet (first | (go_at_call 44; refine Calls.quiet_of_same (less_ok _ _ _)))
              generalize hWg : World.drewN _ nq = W5
              have hO5 : Own w0 W5 (SR g n cap D5 :: l) := by rw [← hWg]; exact HO5.out.drewN nq
              clear hWg HO5
              have HPT : Hid (Calls _ _ _ _ _) := part_any w0 _ l g n cap D5 p q pv hO5 hp1 hp2 hqn (by omega)
              rw [← HZ.out] at HPT
              clear hO5
              go_wp2_with fail
              refine HPT.out.mono ?_
              rintro e W6 ⟨bb, mid, d4, ap, rfl, hpt, hO6⟩
              obtain ⟨r1, r2, r3, r4, r5, r6, r7⟩ := round_part swoInt (partition_holds ltInt) hp1 hp2 (by rw [HSZ.out]; exact hqn) HSG.out.1 hpt
              have HR6 : Hid (∀ L, PermIn p mid d4 L → SortedIn ltInt p mid L → Sg a b d (mid + 1) q L) := fun L h1 h2 => ⟨(r6 L h1 h2).1, fun R h3 h4 => HSG.out.2 R ((r6 L h1 h2).2 R h3 h4).1 ((r6 L h1 h2).2 R h3 h4).2⟩
              have HR7 : Hid (∀ L, PermIn (mid + 1) q d4 L → SortedIn ltInt (mid + 1) q L → Sg a b d p mid L) := fun L h1 h2 => ⟨(r7 L h1 h2).1, fun R h3 h4 => HSG.out.2 R ((r7 L h1 h2).2 R h3 h4).1 ((r7 L h1 h2).2 R h3 h4).2⟩
              obtain ⟨ll, hll⟩ : ∃ ll, ll = mid - p := ⟨_, rfl⟩
              obtain ⟨rl, hrl⟩ : ∃ rl, rl = q - mid := ⟨_, rfl⟩
              have e8 : (mid : Int) - z = (ll : Int) := by have := HZ.out; omega
              have e9 : (q : Int) - (mid : Int) = (rl : Int) := by omega
              have hlls : ll < 256 := by omega
              have hrls : rl < 256 := by omega
              by_cases hlr : ll < rl
              · have hlr' : (ll : Int) < (rl : Int) := by omega
                have HIH : Hid (Calls _ _ _ _ _) := IHH.out (mid - p) (by omega) W6 d4 p mid lim hlim (Nat.le_refl _) r1 (by omega) r4 hO6
                rw [← HZ.out] at HIH
                clear hO6 HPT hpt r3 r4 r5 r6 r7 HR7 hll hrl
                go_wp2_with fail
                refine HIH.out.mono ?_
                rintro e W7 ⟨rfl, d5, hP5, hS5, hO7⟩
                have HO7 : Hid (Own w0 W7 _) := hO7
                have HG : Hid (Sg a b d (mid + 1) q d5) := HR6.out d5 hP5 hS5
                clear hO7 HIH HR6 hP5 hS5
                go_wp2
                go_roundw
                case rel => exact ⟨mid + 1, q, _, _, bb, d5, by go_num, rfl, ⟨rfl, hlim⟩, rfl, rfl, by omega, by omega, by omega, HG.out, HO7.out⟩
                case measure => have := HZ.out; simp [iOf]; omega
              · have hlr' : ¬ (ll : Int) < (rl : Int) := by omega
                have HIH : Hid (Calls _ _ _ _ _) := IHH.out (q - (mid + 1)) (by omega) W6 d4 (mid + 1) q lim hlim (Nat.le_refl _) (by omega) (by omega) r5 hO6
                clear hO6 HPT hpt r3 r4 r5 r6 r7 HR6 hll hrl
                go_wp2_with fail
                refine HIH.out.mono ?_
                rintro e W7 ⟨rfl, d5, hP5, hS5, hO7⟩
                have HO7 : Hid (Own w0 W7 _) := hO7
                have HG : Hid (Sg a b d p mid d5) := HR7.out d5 hP5 hS5
                clear hO7 HIH HR7 hP5 hS5
                go_wp2
                go_roundw
                case rel => exact ⟨p, mid, _, _, bb, d5, by rw [HZ.out], rfl, ⟨rfl, hlim⟩, rfl, rfl, by omega, by omega, by omega, HG.out, HO7.out⟩
                case measure => have := HZ.out; simp [iOf]; omega
            · obtain ⟨k, hk⟩ : ∃ k, p = k + 1 := ⟨p - 1, by omega⟩
              have ek : (p : Int) - 1 = (k : Int) := by omega
              have hz1 : (0 : Int) < (p : Int) := by omega
              have HK : Hid (p = k + 1) := hk
              have hkn : k < n := by omega
              have hpvn : pv < n := by omega
              have ck := HO5.out.srAt k hkn
              have cp := HO5.out.srAt pv hpvn
              obtain ⟨xk, hxk⟩ : ∃ x, x = D5[k]! := ⟨_, rfl⟩
              obtain ⟨xp, hxp⟩ : ∃ x, x = D5[pv]! := ⟨_, rfl⟩
              rw [← hxk] at ck
              rw [← hxp] at cp
              have HXK : Hid (xk = D5[k]!) := hxk
              have HXP : Hid (xp = D5[pv]!) := hxp
              clear hxk hxp hk
              go_wp2
              go_quiet (first | (go_at_call 44; refine Calls.quiet_of_same (less_ok _ _ _)))
              generalize hWg : World.drewN _ nq = W5
              have hO5 : Own w0 W5 (SR g n cap D5 :: l) := by rw [← hWg]; exact HO5.out.drewN nq
              clear hWg HO5 ck cp
              by_cases hl : ltInt xk xp = true
              · rw [hl, Bool.not_true]
                have HPT : Hid (Calls _ _ _ _ _) := part_any w0 _ l g n cap D5 p q pv hO5 hp1 hp2 hqn (by omega)
                clear hO5
                go_wp2_with fail
                refine HPT.out.mono ?_
                rintro e W6 ⟨bb, mid, d4, ap, rfl, hpt, hO6⟩
                obtain ⟨r1, r2, r3, r4, r5, r6, r7⟩ := round_part swoInt (partition_holds ltInt) hp1 hp2 (by rw [HSZ.out]; exact hqn) HSG.out.1 hpt
                have HR6 : Hid (∀ L, PermIn p mid d4 L → SortedIn ltInt p mid L → Sg a b d (mid + 1) q L) := fun L h1 h2 => ⟨(r6 L h1 h2).1, fun R h3 h4 => HSG.out.2 R ((r6 L h1 h2).2 R h3 h4).1 ((r6 L h1 h2).2 R h3 h4).2⟩
                have HR7 : Hid (∀ L, PermIn (mid + 1) q d4 L → SortedIn ltInt (mid + 1) q L → Sg a b d p mid L) := fun L h1 h2 => ⟨(r7 L h1 h2).1, fun R h3 h4 => HSG.out.2 R ((r7 L h1 h2).2 R h3 h4).1 ((r7 L h1 h2).2 R h3 h4).2⟩
                obtain ⟨ll, hll⟩ : ∃ ll, ll = mid - p := ⟨_, rfl⟩
                obtain ⟨rl, hrl⟩ : ∃ rl, rl = q - mid := ⟨_, rfl⟩
                have e8 : (mid : Int) - (p : Int) = (ll : Int) := by omega
                have e9 : (q : Int) - (mid : Int) = (rl : Int) := by omega
                have hlls : ll < 256 := by omega
                have hrls : rl < 256 := by omega
                by_cases hlr : ll < rl
                · have hlr' : (ll : Int) < (rl : Int) := by omega
                  have HIH : Hid (Calls _ _ _ _ _) := IHH.out (mid - p) (by omega) W6 d4 p mid lim hlim (Nat.le_refl _) r1 (by omega) r4 hO6
                  clear hO6 HPT hpt r3 r4 r5 r6 r7 HR7 hll hrl
                  go_wp2_with fail
                  refine HIH.out.mono ?_
                  rintro e W7 ⟨rfl, d5, hP5, hS5, hO7⟩
                  have HO7 : Hid (Own w0 W7 _) := hO7
                  have HG : Hid (Sg a b d (mid + 1) q d5) := HR6.out d5 hP5 hS5
                  clear hO7 HIH HR6 hP5 hS5
                  go_wp2
                  go_roundw
                  case rel => exact ⟨mid + 1, q, _, _, bb, d5, by go_num, rfl, ⟨rfl, hlim⟩, rfl, rfl, by omega, by omega, by omega, HG.out, HO7.out⟩
                  case measure => simp [iOf]; omega
                · have hlr' : ¬ (ll : Int) < (rl : Int) := by omega
                  have HIH : Hid (Calls _ _ _ _ _) := IHH.out (q - (mid + 1)) (by omega) W6 d4 (mid + 1) q lim hlim (Nat.le_refl _) (by omega) (by omega) r5 hO6
                  clear hO6 HPT hpt r3 r4 r5 r6 r7 HR6 hll hrl
                  go_wp2_with fail
                  refine HIH.out.mono ?_
                  rintro e W7 ⟨rfl, d5, hP5, hS5, hO7⟩
                  have HO7 : Hid (Own w0 W7 _) := hO7
                  have HG : Hid (Sg a b d p mid d5) := HR7.out d5 hP5 hS5
                  clear hO7 HIH HR7 hP5 hS5
                  go_wp2
                  go_roundw
                  case rel => exact ⟨p, mid, _, _, bb, d5, rfl, rfl, ⟨rfl, hlim⟩, rfl, rfl, by omega, by omega, by omega, HG.out, HO7.out⟩
                  case measure => simp [iOf]; omega
              · rw [Bool.not_eq_true] at hl
                rw [hl, Bool.not_false]
                have HPT : Hid (Calls _ _ _ _ _) := pequ_any w0 _ l g n cap D5 p q pv hO5 hp1 hp2 hqn (by omega)
                have HL2 : Hid (ltInt D5[p - 1]! D5[pv]! = false) := by
                  show _ = _
                  rw [HK.out, Nat.add_sub_cancel, ← HXK.out, ← HXP.out]
                  exact hl
                clear hO5
                go_wp2_with fail
                refine HPT.out.mono ?_
                rintro e W6 ⟨mid, d4, rfl, hpt, hO6⟩
                obtain ⟨r1, r2, r3, r4, r5⟩ := round_eq swoInt (partitionEqual_holds ltInt) (by omega) hp1 hp2 (by rw [HSZ.out]; exact hqn) HSG.out.1 HL2.out hpt
                have HG : Hid (Sg a b d mid q d4) := ⟨r4, fun R h1 h2 => HSG.out.2 R (r5 R h1 h2).1 (r5 R h1 h2).2⟩
                have HO7 : Hid (Own w0 W6 _) := hO6
                clear hO6 HPT hpt r3 r4 r5 HL2
                go_wp2
                go_roundw
                case rel => exact ⟨mid, q, _, _, _, d4, rfl, rfl, ⟨rfl, hlim⟩, rfl, rfl, by omega, by omega, by omega, HG.out, HO7.out⟩
                case measure => simp [iOf]; omega
          intro Ka ha
          have HR : Hid (R = _) := hR
          clear hR
          by_cases ht2 : t = 2
          · subst ht2
            have HRV : Hid (Calls _ _ _ _ _) := revRange_ok w0 _ l g n cap D p q HO2.out (by omega) hqn (by omega)
            clear ht
            go_wp2_with fail
            refine HRV.out.mono ?_
            rintro e W3 ⟨rfl, D2, hPr, hO3⟩
            have HO3 : Hid (Own w0 W3 (SR g n cap D2 :: l)) := hO3
            have HSG2 : Hid (Sg a b d p q D2) := HSG.out.perm (by rw [HSZ.out]; exact hqn) hPr
            have HSZ2 : Hid (D2.size = n) := hO3.srSize
            clear hO3 HRV HO2 HSG HSZ hPr
            have HSG := HSG2
            have HSZ := HSZ2
            clear HSG2 HSZ2
            obtain ⟨pv2, hpv2⟩ : ∃ pv2 : Nat, (q : Int) - 1 - ((pv : Int) - (p : Int)) = (pv2 : Int) := ⟨q - 1 - (pv - p), by omega⟩
            have e7 : (q : Int) - 1 - ((pv : Int) - (p : Int)) = (pv2 : Int) := hpv2
            have hp3 : p ≤ pv2 := by omega
            have hp4 : pv2 < q := by omega
            obtain ⟨u1, hu1⟩ : ∃ u1 : Nat, (q : Int) - 1 = (u1 : Int) := ⟨q - 1, by omega⟩
            obtain ⟨u2, hu2⟩ : ∃ u2 : Nat, (pv : Int) - (p : Int) = (u2 : Int) := ⟨pv - p, by omega⟩
            rw [hu1, hu2] at e7
            have hu1s : u1 < 256 := by omega
            have hu2s : u2 < 256 := by omega
            clear hpv2 hp1 hp2
            cases wp with
            | true =>
              have HPI : Hid (Calls _ _ _ _ _) := pins_fn w0 _ l g n cap D2 p q HO3.out (by omega) hqn (by omega)
              obtain ⟨s1, s2⟩ := partialInsertionSort_holds swoInt D2 p q (by omega) (by rw [HSZ.out]; exact hqn) HSG.out.1
              obtain ⟨pr, hpr⟩ : ∃ pr, pr = partialInsertionSort ltInt D2 p q := ⟨_, rfl⟩
              have HPR : Hid (pr = partialInsertionSort ltInt D2 p q) := hpr
              rw [← hpr] at s1 s2
              have HS1 : Hid (PermIn p q D2 pr.1) := s1
              have HS2 : Hid (pr.2 = true → SortedIn ltInt p q pr.1) := s2
              clear s1 s2 hpr
              go_wp2_with fail
              refine HPI.out.mono ?_
              rintro e W4 ⟨rfl, hO4⟩
              rw [← HPR.out] at hO4 ⊢
              clear HPI HPR HO3
              by_cases hpb : pr.2 = true
              · rw [hpb]
                have HO4 : Hid (Own w0 W4 _) := hO4
                have hfin := HSG.out.2 _ HS1.out (HS2.out hpb)
                have HF : Hid (PermIn a b d pr.1 ∧ SortedIn ltInt a b pr.1) := hfin
                clear hO4 hfin
                go_wp2
                refine bodyPost_ret (results_none rfl _ _ _) rfl ?_
                exact ⟨rfl, _, HF.out.1, HF.out.2, HO4.out⟩
              · rw [Bool.not_eq_true] at hpb
                rw [hpb]
                have HSG3 : Hid (Sg a b d p q pr.1) := HSG.out.perm (by rw [HSZ.out]; exact hqn) HS1.out
                have HSZ3 : Hid (pr.1.size = n) := hO4.srSize
                obtain ⟨D3, hD3⟩ : ∃ D3, D3 = pr.1 := ⟨_, rfl⟩
                rw [← hD3] at hO4 HSG3 HSZ3
                have HO4 : Hid (Own w0 W4 _) := hO4
                clear hO4 HSG HSZ HS1 HS2 hD3 hpb
                clear pr
                have HSG := HSG3
                have HSZ := HSZ3
                clear HSG3 HSZ3
                go_wp2
                rw [HR.out]
                exact ⟨pv2, D3, by rfl, hp3, hp4, HSG.out, HSZ.out, HO4.out⟩
            | false =>
              go_wp2
              rw [HR.out]
              exact ⟨pv2, D2, by rfl, hp3, hp4, HSG.out, HSZ.out, HO3.out⟩
          · have ht2' : (t == 2) = false := by rw [beq_eq_false_iff_ne]; exact ht2
            cases wp with
            | true =>
              by_cases ht1 : t = 1
              · subst ht1
                have HPI : Hid (Calls _ _ _ _ _) := pins_fn w0 _ l g n cap D p q HO2.out (by omega) hqn (by omega)
                obtain ⟨s1, s2⟩ := partialInsertionSort_holds swoInt D p q (by omega) (by rw [HSZ.out]; exact hqn) HSG.out.1
                obtain ⟨pr, hpr⟩ : ∃ pr, pr = partialInsertionSort ltInt D p q := ⟨_, rfl⟩
                have HPR : Hid (pr = partialInsertionSort ltInt D p q) := hpr
                rw [← hpr] at s1 s2
                have HS1 : Hid (PermIn p q D pr.1) := s1
                have HS2 : Hid (pr.2 = true → SortedIn ltInt p q pr.1) := s2
                clear s1 s2 hpr
                go_wp2_with fail
                refine HPI.out.mono ?_
                rintro e W4 ⟨rfl, hO4⟩
                rw [← HPR.out] at hO4 ⊢
                clear HPI HPR HO2
                by_cases hpb : pr.2 = true
                · rw [hpb]
                  have HO4 : Hid (Own w0 W4 _) := hO4
                  have hfin := HSG.out.2 _ HS1.out (HS2.out hpb)
                  have HF : Hid (PermIn a b d pr.1 ∧ SortedIn ltInt a b pr.1) := hfin
                  clear hO4 hfin
                  go_wp2
                  refine bodyPost_ret (results_none rfl _ _ _) rfl ?_
                  exact ⟨rfl, _, HF.out.1, HF.out.2, HO4.out⟩
                · rw [Bool.not_eq_true] at hpb
                  rw [hpb]
                  have HSG3 : Hid (Sg a b d p q pr.1) := HSG.out.perm (by rw [HSZ.out]; exact hqn) HS1.out
                  have HSZ3 : Hid (pr.1.size = n) := hO4.srSize
                  obtain ⟨D3, hD3⟩ : ∃ D3, D3 = pr.1 := ⟨_, rfl⟩
                  rw [← hD3] at hO4 HSG3 HSZ3
                  have HO4 : Hid (Own w0 W4 _) := hO4
                  clear hO4 HSG HSZ HS1 HS2 hD3 hpb
                  clear pr
                  have HSG := HSG3
                  have HSZ := HSZ3
                  clear HSG3 HSZ3
                  go_wp2
                  rw [HR.out]
                  exact ⟨pv, D3, by rfl, hp1, hp2, HSG.out, HSZ.out, HO4.out⟩
              · have ht1' : (t == 1) = false := by rw [beq_eq_false_iff_ne]; exact ht1
                go_wp2
                rw [HR.out]
                exact ⟨pv, D, by rfl, hp1, hp2, HSG.out, HSZ.out, HO2.out⟩
            | false =>
              go_wp2
              rw [HR.out]
              exact ⟨pv, D, by rfl, hp1, hp2, HSG.out, HSZ.out, HO2.out⟩
theorem below0 (b : Nat) (d : Array Int) : Go.Sort.Below ltInt 0 b d := Or.inl rfl
set_option maxHeartbeats 4000000 in
theorem sort_ok (w0 w : World) (l : List Thing) (g n cap : Nat) (d : Array Int) (h : Own w0 w (SR g n cap d :: l)) (hn : n < 256) :
    Calls Tryd.prog 30 #[.slice (some ⟨g, 0, none⟩) n cap] w fun e w' => e = .returned (.tuple #[]) ∧ ∃ d', PermIn 0 n d d' ∧ SortedIn ltInt 0 n d' ∧ Own w0 w' (SR g n cap d' :: l) := by
  have HB : Hid (Calls _ _ _ _ _) := blen_ok w n hn
  have H : Hid (Own w0 w (SR g n cap d :: l)) := h
  clear h
  go_enter Tryd.func30, Tryd.ntmps30
  go_wp2_with fail
  refine HB.out.mono ?_
  rintro e w1 ⟨v, rfl, rfl, hv, _⟩
  have HP : Hid (Calls _ _ _ _ _) := pdq_ok w0 l g n cap hn n w1 d 0 n v (by omega) (by omega) (Nat.zero_le _) (Nat.le_refl _) (below0 n d) H.out
  clear HB H
  go_wp2_with fail
  refine HP.out.mono ?_
  rintro e w2 ⟨rfl, d', h1, h2, h3⟩
  have H3 : Hid (PermIn 0 n d d' ∧ SortedIn ltInt 0 n d' ∧ Own w0 w2 (SR g n cap d' :: l)) := ⟨h1, h2, h3⟩
  clear h1 h2 h3 HP
  go_wp2
  go_end0
  exact ⟨rfl, d', H3.out⟩
end Go.Proofs.YthokgjkgfolojabDoor
