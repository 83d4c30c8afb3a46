/-
  A world in which nothing moves, ages or breeds stays as it is, tick by tick: WorldQuiet returns true, whatever its arguments, where the table of the components lies as the program's text lays it, and changes nothing that was there.
-/
import Derived.Test.YtflmgilmbppieaaGreatDoorSelg
import Derived.OpenShut
import Derived.SevenTiedAt
import Derived.Deep.DeepCutAuto
import Derived.Deep.CutBlock
namespace Go.Proofs.YtflmgilmbppieaaGreatDoor
open Go.ChangeShapes Go.WideShapes Go.ChangeAt Go.RowKit Go.Maps
set_option linter.unusedVariables false
set_option maxRecDepth 100000

def stB (c : Cp) : Bool := !(c.k == 1) && !(c.k == 2) && !(c.k == 5)
theorem stB_snoc {C : List Cp} {j : Nat} {c : Cp} (h : C[j]? = some c) : (C.take (j + 1)).filter stB = (C.take j).filter stB ++ (if stB c then [c] else []) := by
  rw [List.take_add_one, h, List.filter_append]
  congr 1
  cases hb : stB c <;> simp [hb]
theorem stB_still {C : List Cp} : ∀ c ∈ C.filter stB, Still c := by
  intro c hc
  have := (List.mem_filter.1 hc).2
  unfold stB at this
  simp at this
  exact ⟨this.1.1, this.1.2, this.2⟩
set_option maxHeartbeats 32000000 in
theorem worldQuiet_fr (w : World) (ht : Tab w) (ao : Option Addr) (len cap : Nat) (Q : List LsE) (hQ : IsLss w ao len cap Q) (nn : Nat) (hnn : nn < 256) :
    Calls Tryz.prog 6 #[.slice ao len cap, .int .u8 (nn : Int)] w fun e w' => e = .returned (.bool true) ∧ Fr Nobody w w' := by
  obtain ⟨hLs, hLb⟩ := hQ.lss
  obtain ⟨hQl, hlc, hcm, _⟩ := hQ
  unfold maxLen at hcm
  have HT : Hid (Tab w) := ht
  have HQ : Hid (Q.length = len ∧ Lss w ao Q ∧ ∀ x ∈ Q, x.C.length ≤ x.cap ∧ x.cap ≤ 9223372036854775807 ∧ ∀ q ∈ x.C, q.k < 256) := ⟨hQl, hLs, hLb⟩
  have HAW : Hid (Calls _ _ _ _ _) := awake15 w ht
  have HNK : Hid ((Sto.new 20 1).Ok) := Sto.new_ok 20 1 (by decide) (by decide) (by decide) (by decide)
  obtain ⟨i0, hi, hz0, hz1, hz2⟩ := info_parts Tryz.infoComp
  obtain ⟨cnt, hcnt⟩ : ∃ cnt, cnt = 1 + nn % 5 := ⟨_, rfl⟩
  have hc5 : cnt ≤ 5 := by omega
  have htm : Int.tmod (nn : Int) 5 = (cnt : Int) - 1 := by
    rw [Int.tmod_eq_emod_of_nonneg (by omega)]
    omega
  clear hQl hLs hLb ht hcnt
  go_enter Tryz.func6, Tryz.ntmps6
  go_wp2_with fail
  refine HAW.out.mono ?_
  rintro e w1 ⟨rfl, hf⟩
  have HC : Hid (Calls _ _ _ _ _) := wnew w w1 [] 20 1 0 (Own.of_fr hf) (by decide) (by decide) (by decide) (by decide)
  clear hf HAW
  go_wp2_with fail
  refine HC.out.mono ?_
  rintro e w2 ⟨ba, rfl, hO⟩
  have H3 : Hid (Own w _ _) := hO
  clear HC hO
  go_wp2
  refine wp_loop (fun a' wr => ∃ (i : Nat) (E : List OrdE), a' = { tmps := #[a'.tmps.getD 0 undef, .int .u8 (nn : Int), a'.tmps.getD 2 undef, a'.tmps.getD 3 undef, a'.tmps.getD 4 undef, .pointer (some ⟨ba, 0, none⟩), a'.tmps.getD 6 undef, a'.tmps.getD 7 undef, a'.tmps.getD 8 undef, a'.tmps.getD 9 undef, a'.tmps.getD 10 undef, a'.tmps.getD 11 undef, a'.tmps.getD 12 undef, a'.tmps.getD 13 undef, a'.tmps.getD 14 undef, a'.tmps.getD 15 undef, a'.tmps.getD 16 undef, a'.tmps.getD 17 undef, a'.tmps.getD 18 undef, a'.tmps.getD 19 undef, a'.tmps.getD 20 undef, .slice ao len cap, .int .i64 (len : Int), .int .i64 (i : Int), a'.tmps.getD 24 undef, a'.tmps.getD 25 undef, a'.tmps.getD 26 undef, a'.tmps.getD 27 undef, a'.tmps.getD 28 undef, a'.tmps.getD 29 undef, a'.tmps.getD 30 undef, a'.tmps.getD 31 undef, a'.tmps.getD 32 undef, a'.tmps.getD 33 undef, a'.tmps.getD 34 undef, a'.tmps.getD 35 undef, a'.tmps.getD 36 undef, a'.tmps.getD 37 undef, a'.tmps.getD 38 undef, a'.tmps.getD 39 undef, a'.tmps.getD 40 undef, a'.tmps.getD 41 undef, a'.tmps.getD 42 undef, a'.tmps.getD 43 undef, a'.tmps.getD 44 undef, a'.tmps.getD 45 undef, a'.tmps.getD 46 undef, a'.tmps.getD 47 undef, a'.tmps.getD 48 undef, a'.tmps.getD 49 undef, a'.tmps.getD 50 undef, a'.tmps.getD 51 undef, a'.tmps.getD 52 undef, a'.tmps.getD 53 undef, a'.tmps.getD 54 undef, a'.tmps.getD 55 undef, a'.tmps.getD 56 undef, a'.tmps.getD 57 undef, a'.tmps.getD 58 undef, a'.tmps.getD 59 undef, a'.tmps.getD 60 undef, a'.tmps.getD 61 undef, a'.tmps.getD 62 undef, a'.tmps.getD 63 undef, a'.tmps.getD 64 undef, a'.tmps.getD 65 undef, a'.tmps.getD 66 undef, a'.tmps.getD 67 undef, a'.tmps.getD 68 undef, a'.tmps.getD 69 undef, a'.tmps.getD 70 undef, a'.tmps.getD 71 undef, a'.tmps.getD 72 undef, a'.tmps.getD 73 undef, a'.tmps.getD 74 undef, a'.tmps.getD 75 undef, a'.tmps.getD 76 undef, a'.tmps.getD 77 undef, a'.tmps.getD 78 undef, a'.tmps.getD 79 undef, a'.tmps.getD 80 undef, a'.tmps.getD 81 undef, a'.tmps.getD 82 undef, a'.tmps.getD 83 undef, a'.tmps.getD 84 undef, a'.tmps.getD 85 undef, a'.tmps.getD 86 undef, a'.tmps.getD 87 undef, a'.tmps.getD 88 undef, a'.tmps.getD 89 undef, a'.tmps.getD 90 undef, a'.tmps.getD 91 undef, a'.tmps.getD 92 undef], defers := [] } ∧ i ≤ len ∧ E.length ≤ i ∧ E.length ≤ 15 ∧ (∀ o ∈ E, o.In ∧ o.Stl) ∧ Own w wr [WdT ba ⟨0, Sto.new 20 1, E, (fun _ _ => none), []⟩ 0 0]) (fun a' _ => len - (intOf (a'.tmps.getD 23 undef)).toNat) ?_ ?_
  · exact ⟨0, [], rfl, Nat.zero_le _, Nat.le_refl _, Nat.zero_le _, (fun o ho => (by cases ho)), H3.out⟩
  · intro a' wr hI
    obtain ⟨i, E, hact, hil, hEi, hE15, hEI, hO⟩ := hI
    obtain ⟨u, hu⟩ : ∃ u : Nat → Value, ∀ k, a'.tmps.getD k undef = u k := ⟨_, fun _ => rfl⟩
    simp only [hu] at hact
    clear hu
    subst hact
    have HE : Hid (∀ o ∈ E, o.In ∧ o.Stl) := hEI
    clear H3 hEI
    by_cases hlt : i < len
    · have hlt' : (i : Int) < (len : Int) := by omega
      obtain ⟨x, hx⟩ : ∃ x, Q[i]? = some x := ⟨_, List.getElem?_eq_getElem (by rw [HQ.out.1]; exact hlt)⟩
      obtain ⟨g, o, hao, c0⟩ := (HQ.out.2.1.quiet hO.fr).at i x hx
      subst hao
      have hmx := List.mem_of_getElem? hx
      obtain ⟨hx1, hx2, hx3⟩ := HQ.out.2.2 x hmx
      have HCS : Hid (∀ W, Fr Nobody w W → Cs W x.ao x.C) := fun W hW => (HQ.out.2.1.2 x hmx).quiet hW
      have HK : Hid (∀ q ∈ x.C, q.k < 256) := hx3
      obtain ⟨m, hm⟩ : ∃ m, m = min x.C.length 20 := ⟨_, rfl⟩
      have hmin : (if 20 < (x.C.length : Int) then 20 else (x.C.length : Int)) = (m : Int) := by split <;> omega
      have hmin2 : min (x.C.length : Int) 20 = (m : Int) := by omega
      have hm1 : m ≤ x.C.length := by omega
      have hm2 : m ≤ x.cap := by omega
      have hm20 : m ≤ 20 := by omega
      have HO : Hid (Own w wr _) := hO
      clear hO hx hmx hx3 hm
      obtain ⟨C, xa, xc⟩ := x
      simp only at c0 hx1 hx2 HCS HK hmin hmin2 hm1 hm2
      have HML : Hid (m ≤ C.length) := hm1
      generalize hcl : C.length = cl at *
      have HCL : Hid (C.length = cl) := hcl
      clear hcl HML
      go_wp2
      refine wp_loop (fun a' wr => ∃ (j sl sc : Nat) (sa : Option Addr) (SL : List Cp), a' = { tmps := #[a'.tmps.getD 0 undef, .int .u8 (nn : Int), a'.tmps.getD 2 undef, a'.tmps.getD 3 undef, a'.tmps.getD 4 undef, .pointer (some ⟨ba, 0, none⟩), a'.tmps.getD 6 undef, .int .i64 (i : Int), a'.tmps.getD 8 undef, .slice sa sl sc, a'.tmps.getD 10 undef, a'.tmps.getD 11 undef, a'.tmps.getD 12 undef, a'.tmps.getD 13 undef, a'.tmps.getD 14 undef, a'.tmps.getD 15 undef, a'.tmps.getD 16 undef, a'.tmps.getD 17 undef, a'.tmps.getD 18 undef, a'.tmps.getD 19 undef, a'.tmps.getD 20 undef, .slice (some ⟨g, o, none⟩) len cap, .int .i64 (len : Int), .int .i64 (i : Int), a'.tmps.getD 24 undef, a'.tmps.getD 25 undef, a'.tmps.getD 26 undef, a'.tmps.getD 27 undef, a'.tmps.getD 28 undef, a'.tmps.getD 29 undef, a'.tmps.getD 30 undef, a'.tmps.getD 31 undef, .slice xa m xc, .int .i64 (m : Int), .int .i64 (j : Int), a'.tmps.getD 35 undef, a'.tmps.getD 36 undef, a'.tmps.getD 37 undef, a'.tmps.getD 38 undef, a'.tmps.getD 39 undef, a'.tmps.getD 40 undef, a'.tmps.getD 41 undef, a'.tmps.getD 42 undef, a'.tmps.getD 43 undef, a'.tmps.getD 44 undef, a'.tmps.getD 45 undef, a'.tmps.getD 46 undef, a'.tmps.getD 47 undef, a'.tmps.getD 48 undef, a'.tmps.getD 49 undef, a'.tmps.getD 50 undef, a'.tmps.getD 51 undef, a'.tmps.getD 52 undef, a'.tmps.getD 53 undef, a'.tmps.getD 54 undef, a'.tmps.getD 55 undef, a'.tmps.getD 56 undef, a'.tmps.getD 57 undef, a'.tmps.getD 58 undef, a'.tmps.getD 59 undef, a'.tmps.getD 60 undef, a'.tmps.getD 61 undef, a'.tmps.getD 62 undef, a'.tmps.getD 63 undef, a'.tmps.getD 64 undef, a'.tmps.getD 65 undef, a'.tmps.getD 66 undef, a'.tmps.getD 67 undef, a'.tmps.getD 68 undef, a'.tmps.getD 69 undef, a'.tmps.getD 70 undef, a'.tmps.getD 71 undef, a'.tmps.getD 72 undef, a'.tmps.getD 73 undef, a'.tmps.getD 74 undef, a'.tmps.getD 75 undef, a'.tmps.getD 76 undef, a'.tmps.getD 77 undef, a'.tmps.getD 78 undef, a'.tmps.getD 79 undef, a'.tmps.getD 80 undef, a'.tmps.getD 81 undef, a'.tmps.getD 82 undef, a'.tmps.getD 83 undef, a'.tmps.getD 84 undef, a'.tmps.getD 85 undef, a'.tmps.getD 86 undef, a'.tmps.getD 87 undef, a'.tmps.getD 88 undef, a'.tmps.getD 89 undef, a'.tmps.getD 90 undef, a'.tmps.getD 91 undef, a'.tmps.getD 92 undef], defers := [] } ∧ j ≤ m ∧ sl ≤ j ∧ sl = SL.length ∧ SL = (C.take j).filter stB ∧ Own w wr [Row 46 4 (.slice sa sl sc) sl (ccat SL), WdT ba ⟨0, Sto.new 20 1, E, (fun _ _ => none), []⟩ 0 0]) (fun a' _ => m - (intOf (a'.tmps.getD 34 undef)).toNat) ?_ ?_
      · exact ⟨0, 0, 0, none, [], rfl, Nat.zero_le _, Nat.le_refl _, rfl, rfl, HO.out.nilRow _ _⟩
      · intro a' wr hI
        obtain ⟨j, sl, sc, sa, SL, hact, hj, hsl, hsn, hSL, hO⟩ := hI
        obtain ⟨u2, hu⟩ : ∃ u2 : Nat → Value, ∀ k, a'.tmps.getD k undef = u2 k := ⟨_, fun _ => rfl⟩
        simp only [hu] at hact
        clear hu
        subst hact
        have HSL : Hid (sl = SL.length ∧ SL = (C.take j).filter stB) := ⟨hsn, hSL⟩
        clear HO hsn hSL
        by_cases hjm : j < m
        · have hjm' : (j : Int) < (m : Int) := by omega
          obtain ⟨c, hc⟩ : ∃ c, C[j]? = some c := ⟨_, List.getElem?_eq_getElem (by rw [HCL.out]; omega)⟩
          obtain ⟨gc, oc, hxa, _, y0, y1, y2, y3⟩ := (HCS.out _ hO.fr).at j c hc
          subst hxa
          have hck := HK.out c (List.mem_of_getElem? hc)
          have hst := stB_snoc hc
          have hA := hO.allocC #[.int .u8 (c.k : Int), .int .i32 c.a, .int .i32 c.b, .int .i32 c.c] 46
          have t0 := hA.cell 0
          have t1 := hA.cell 1
          have t2 := hA.cell 2
          have t3 := hA.cell 3
          simp at t0 t1 t2 t3
          have HA : Hid (Own w _ _) := hA
          cases hb : stB c with
          | false =>
            rw [hb, if_neg (by decide)] at hst
            have HS2 : Hid (SL = (C.take (j + 1)).filter stB) := by show _ = _; rw [hst, HSL.out.2]; simp
            have hkk : c.k = 1 ∨ c.k = 2 ∨ c.k = 5 := by
              unfold stB at hb
              by_cases a1 : c.k = 1
              · exact .inl a1
              · by_cases a2 : c.k = 2
                · exact .inr (.inl a2)
                · by_cases a5 : c.k = 5
                  · exact .inr (.inr a5)
                  · simp [a1, a2, a5] at hb
            clear hO hA hc hst hb
            obtain ⟨ck, ca, cb, cc⟩ := c
            simp only at y0 y1 y2 y3 t0 t1 t2 t3 HA hck hkk
            rcases hkk with rfl | rfl | rfl
            all_goals
              go_wp2
              exact ⟨⟨j + 1, sl, sc, sa, SL, rfl, by omega, by omega, HSL.out.1, HS2.out, HA.out.tail⟩, by simp [intOf]; omega⟩
          | true =>
            rw [hb, if_pos rfl] at hst
            have HS2 : Hid (SL ++ [c] = (C.take (j + 1)).filter stB) := by show _ = _; rw [hst, HSL.out.2]
            have hkk : c.k ≠ 1 ∧ c.k ≠ 2 ∧ c.k ≠ 5 := by
              unfold stB at hb
              simp at hb
              exact ⟨hb.1.1, hb.1.2, hb.2⟩
            obtain ⟨h1, h2, h5⟩ := hkk
            have n1 : ((c.k : Int) != 1) = true := by rw [bne_iff_ne]; omega
            have n2 : ((c.k : Int) != 2) = true := by rw [bne_iff_ne]; omega
            have n5 : ((c.k : Int) != 5) = true := by rw [bne_iff_ne]; omega
            have m1 : ((c.k : Int) == 1) = false := by rw [beq_eq_false_iff_ne]; omega
            have m2 : ((c.k : Int) == 2) = false := by rw [beq_eq_false_iff_ne]; omega
            have m5 : ((c.k : Int) == 5) = false := by rw [beq_eq_false_iff_ne]; omega
            clear hO hA hc hst hb h1 h2 h5
            obtain ⟨ck, ca, cb, cc⟩ := c
            simp only at y0 y1 y2 y3 t0 t1 t2 t3 HA hck n1 n2 n5 m1 m2 m5 HS2
            go_wp2_with (at_builtin; refine append1_own rfl _ _ 39 rfl 46 i0 _ 4 16 Tryz.underlying39 hi hz0 hz1 hz2 rfl (by decide) _ _ _ rfl HA.out.two _ #[.int .u8 (ck : Int), .int .i32 ca, .int .i32 cb, .int .i32 cc] (by simp) rfl rfl (by intro u hu; simp at hu; rcases hu with rfl | rfl | rfl | rfl <;> rfl) (by unfold maxLen; omega) (by omega) ?_)
            intro g4 c4 w4 hO4 hsz
            have H4 : Hid (Own w w4 [Row 46 4 (.slice (some ⟨g4, 0, none⟩) (sl + 1) c4) (sl + 1) (ccat (SL ++ [⟨ck, ca, cb, cc⟩])), WdT ba ⟨0, Sto.new 20 1, E, (fun _ _ => none), []⟩ 0 0]) := by show Own _ _ _; rw [ccat_snocq]; exact hO4.two.tail
            clear hO4 hsz t0 t1 t2 t3 y0 y1 y2 y3 HA
            go_wp2
            exact ⟨⟨j + 1, sl + 1, c4, _, SL ++ [⟨ck, ca, cb, cc⟩], rfl, by omega, by omega, by rw [List.length_append, ← HSL.out.1]; rfl, HS2.out, H4.out⟩, by simp [intOf]; omega⟩
        · have hjm' : ¬ (j : Int) < (m : Int) := by omega
          by_cases h15 : i < 15
          · have h15' : (i : Int) < 15 := by omega
            have hsm : ∀ c ∈ SL, Still c := by rw [HSL.out.2]; exact stB_still
            have hsk : ∀ c ∈ SL, c.k < 256 := by
              rw [HSL.out.2]
              exact fun c hc => HK.out c (List.mem_of_mem_take (List.mem_filter.1 hc).1)
            have hin : OrdE.In ⟨1, 0, 0, SL, sa, sc⟩ := ⟨by show (1 : Nat) < 256; decide, by show (0 : Nat) < 4294967296; decide, by show (0 : Nat) < 256; decide, hsk, by show SL.length ≤ _; rw [← HSL.out.1]; omega⟩
            have hO1 := hO.two
            have HSN := HSL.out.1
            rw [HSN] at hO1
            have HP : Hid (Calls _ _ _ _ _) := wpush w wr _ ba 0 0 _ HT.out hO1 ⟨1, 0, 0, SL, sa, sc⟩ hin (fun w' hw => Own.rcs hw rfl)
            have hag : OrdE.ag ⟨1, 0, 0, SL, sa, sc⟩ = .agg #[.int .u8 1, .int .u32 0, .int .u8 0, .slice sa SL.length sc] := rfl
            simp only [hag] at HP
            rw [← HSN] at HP
            clear hag
            have HPT : Hid (∀ E', PushTo E ⟨1, 0, 0, SL, sa, sc⟩ E' → E'.length ≤ i + 1 ∧ E'.length ≤ 15 ∧ ∀ o ∈ E', o.In ∧ o.Stl) := by
              intro E' hE'
              obtain ⟨e1, e2⟩ := hE'.more hin (fun o ho => (HE.out o ho).1)
              refine ⟨by omega, by omega, fun o ho => ⟨e1 o ho, ?_⟩⟩
              unfold PushTo at hE'
              split at hE'
              · obtain ⟨a, c, rfl⟩ := hE'
                rcases List.mem_append.1 ho with ho | ho
                · exact (HE.out o ho).2
                · have : o = ⟨1, 0, 0, SL, a, c⟩ := by simpa using ho
                  subst this
                  exact ⟨rfl, hsm⟩
              · rw [hE'] at ho; exact (HE.out o ho).2
            clear hO hO1 hin hsm hsk HSN HSL
            go_wp2_with fail
            refine HP.out.mono ?_
            rintro e w5 ⟨E', rfl, hE', hO⟩
            obtain ⟨e1, e2, e3⟩ := HPT.out E' hE'
            have HE3 : Hid (∀ o ∈ E', o.In ∧ o.Stl) := e3
            have H5 : Hid (Own w w5 _) := hO.two.tail
            clear hO HP hE' HPT e3
            go_wp2
            exact ⟨⟨i + 1, E', rfl, by omega, e1, e2, HE3.out, H5.out⟩, by simp [intOf]; omega⟩
          · have h15' : ¬ (i : Int) < 15 := by omega
            have H5 : Hid (Own w wr _) := hO.tail
            clear hO
            go_wp2
            exact ⟨⟨i + 1, rfl, by omega, E, by omega, hE15, HE.out, H5.out⟩, by simp [intOf]; omega⟩
    · have hlt' : ¬ (i : Int) < (len : Int) := by omega
      have HC : Hid (Calls _ _ _ _ _) := wstep w wr _ ba 0 0 ⟨0, Sto.new 20 1, E, (fun _ _ => none), []⟩ HT.out HNK.out (by decide) (by decide) (by show (0 : Nat) < _; decide) (by show E.length ≤ _; omega) (fun o ho => (HE.out o ho).1) hO
      simp only [Wd.next] at HC
      have hcalm := calm_runs E (Sto.new 20 1, 0) (calm_new 20 1) (fun o ho => (HE.out o ho).2)
      have hrok := runs_ok E (Sto.new 20 1, 0) HNK.out
      clear hO HE
      generalize (runs stq (Sto.new 20 1, 0) E).1 = RR at *
      generalize (runs stq (Sto.new 20 1, 0) E).2.1 = σ at *
      rw [sys_calm hrok hcalm] at HC
      have Hσ : Hid (σ.Ok ∧ Calm σ) := ⟨hrok, hcalm⟩
      clear hrok hcalm
      generalize hel : E.length = el at *
      obtain ⟨S1, hS1⟩ : ∃ S1, S1 = mapOf (fun _ _ => none) (0 + 1) (allS σ) := ⟨_, rfl⟩
      have HS1 : Hid (S1 = mapOf (fun _ _ => none) (0 + 1) (allS σ)) := hS1
      rw [← hS1] at HC
      clear hS1 hel
      go_wp2_with fail
      refine HC.out.mono ?_
      rintro e w5 ⟨ra1, rc1, K1, n1, P1, rfl, hK1, hn1, _, _, hO⟩
      have HLA : Hid (Calls _ _ _ _ _) := wlistT w w5 _ ba K1 n1 _ Hσ.out.1 (by omega) hO.two
      clear HC hO
      go_wp2_with fail
      refine HLA.out.mono ?_
      rintro e w6 ⟨la, lc2, M, rfl, hM, hO⟩
      obtain ⟨hl1, hx1⟩ := ents_ok Hσ.out.1 hM
      have HTW : Hid (Calls _ _ _ _ _) := twins_ents w w6 _ la lc2 M (by omega) (fun x hx => Nat.le_trans (hx1 x hx).2.1 (by decide)) hO
      have HM : Hid (M.map (fun x => (x.id, x.C)) = σ.S.list.map (fun id => (id, σ.cps id))) := hM
      clear HLA hO hM hl1 hx1
      generalize M.length = ml at *
      go_wp2_with fail
      refine HTW.out.mono ?_
      rintro e w7 ⟨ta, tc, M2, rfl, hM2, hO⟩
      have HM2 : Hid (M2.map (fun x => (x.id, x.C)) = σ.S.list.map (fun id => (id, σ.cps id))) := by show _ = _; rw [hM2]; exact HM.out
      have H7 : Hid (Own w w7 [EntsT ta tc M2, WdT ba ⟨0 + 1, σ, [], S1, P1⟩ K1 n1]) := hO.sel 4 [0, 2] (by decide)
      obtain ⟨tl, htl⟩ : ∃ tl, M2.length = tl := ⟨_, rfl⟩
      have HTL : Hid (M2.length = tl) := htl
      rw [htl]
      clear HTW hO hM2 htl HM
      go_wp2
      refine wp_loop (fun a' wr => ∃ (j K n : Nat) (P : List PlE), a' = { tmps := #[a'.tmps.getD 0 undef, a'.tmps.getD 1 undef, a'.tmps.getD 2 undef, a'.tmps.getD 3 undef, a'.tmps.getD 4 undef, .pointer (some ⟨ba, 0, none⟩), a'.tmps.getD 6 undef, a'.tmps.getD 7 undef, a'.tmps.getD 8 undef, a'.tmps.getD 9 undef, a'.tmps.getD 10 undef, a'.tmps.getD 11 undef, .slice ta tl tc, a'.tmps.getD 13 undef, a'.tmps.getD 14 undef, a'.tmps.getD 15 undef, a'.tmps.getD 16 undef, a'.tmps.getD 17 undef, a'.tmps.getD 18 undef, a'.tmps.getD 19 undef, a'.tmps.getD 20 undef, a'.tmps.getD 21 undef, a'.tmps.getD 22 undef, a'.tmps.getD 23 undef, a'.tmps.getD 24 undef, a'.tmps.getD 25 undef, a'.tmps.getD 26 undef, a'.tmps.getD 27 undef, a'.tmps.getD 28 undef, a'.tmps.getD 29 undef, a'.tmps.getD 30 undef, a'.tmps.getD 31 undef, a'.tmps.getD 32 undef, a'.tmps.getD 33 undef, a'.tmps.getD 34 undef, a'.tmps.getD 35 undef, a'.tmps.getD 36 undef, a'.tmps.getD 37 undef, a'.tmps.getD 38 undef, a'.tmps.getD 39 undef, a'.tmps.getD 40 undef, a'.tmps.getD 41 undef, a'.tmps.getD 42 undef, a'.tmps.getD 43 undef, a'.tmps.getD 44 undef, a'.tmps.getD 45 undef, a'.tmps.getD 46 undef, a'.tmps.getD 47 undef, a'.tmps.getD 48 undef, a'.tmps.getD 49 undef, a'.tmps.getD 50 undef, a'.tmps.getD 51 undef, a'.tmps.getD 52 undef, a'.tmps.getD 53 undef, a'.tmps.getD 54 undef, a'.tmps.getD 55 undef, a'.tmps.getD 56 undef, a'.tmps.getD 57 undef, a'.tmps.getD 58 undef, a'.tmps.getD 59 undef, a'.tmps.getD 60 undef, a'.tmps.getD 61 undef, a'.tmps.getD 62 undef, a'.tmps.getD 63 undef, a'.tmps.getD 64 undef, a'.tmps.getD 65 undef, a'.tmps.getD 66 undef, a'.tmps.getD 67 undef, a'.tmps.getD 68 undef, a'.tmps.getD 69 undef, .int .u8 (cnt : Int), .int .u8 (j : Int), a'.tmps.getD 72 undef, a'.tmps.getD 73 undef, a'.tmps.getD 74 undef, a'.tmps.getD 75 undef, a'.tmps.getD 76 undef, a'.tmps.getD 77 undef, a'.tmps.getD 78 undef, a'.tmps.getD 79 undef, a'.tmps.getD 80 undef, a'.tmps.getD 81 undef, a'.tmps.getD 82 undef, a'.tmps.getD 83 undef, a'.tmps.getD 84 undef, a'.tmps.getD 85 undef, a'.tmps.getD 86 undef, a'.tmps.getD 87 undef, a'.tmps.getD 88 undef, a'.tmps.getD 89 undef, a'.tmps.getD 90 undef, a'.tmps.getD 91 undef, a'.tmps.getD 92 undef], defers := [] } ∧ j ≤ cnt ∧ K ≤ 5000 + 3000 * j ∧ n ≤ 6144 ∧ Own w wr [EntsT ta tc M2, WdT ba ⟨1 + j, σ, [], S1, P⟩ K n]) (fun a' _ => cnt - (intOf (a'.tmps.getD 71 undef)).toNat) ?_ ?_
      · exact ⟨0, K1, n1, P1, by simp; omega, Nat.zero_le _, by omega, hn1, H7.out⟩
      · intro a' wr hI
        obtain ⟨j, K, n, P, hact, hj, hK, hn, hO⟩ := hI
        obtain ⟨u4, hu⟩ : ∃ u4 : Nat → Value, ∀ k, a'.tmps.getD k undef = u4 k := ⟨_, fun _ => rfl⟩
        simp only [hu] at hact
        clear hu
        subst hact
        clear H7
        by_cases hjc : j < cnt
        · have hjc' : (j : Int) < (cnt : Int) := by omega
          have HC : Hid (Calls _ _ _ _ _) := wstep w wr _ ba K n ⟨1 + j, σ, [], S1, P⟩ HT.out Hσ.out.1 (by omega) (by omega) (by show 1 + j < _; omega) (by show (0 : Nat) ≤ _; decide) (fun o ho => (by cases ho)) hO.two
          have hns : ∀ P', Wd.next ⟨1 + j, σ, [], S1, P⟩ K P' = ⟨1 + j + 1, σ, [], S1, P'⟩ := fun P' => by
            show Wd.mk (1 + j + 1) σ.sys [] (mapOf S1 (1 + j + 1) (allS σ.sys)) P' = _
            rw [sys_calm Hσ.out.1 Hσ.out.2, HS1.out, look_same Hσ.out.1]
          simp only [hns] at HC
          have HPN : Hid (∀ P', PlOf S1 S1 (1 + j + 1) P' → P' = []) := fun P' h => plOf_none h (fun i k s hs e => by
            rw [HS1.out] at hs
            have := look_first Hσ.out.1 hs
            omega)
          have HR0 : Hid ((runs stq (σ, K) ([] : List OrdE)).1 = []) := rfl
          clear hO hns
          go_wp2_with fail
          refine HC.out.mono ?_
          rintro e w8 ⟨ra, rc, K', n', P', rfl, hK', hn', _, hPl, hO⟩
          have hP0 := HPN.out P' hPl
          subst hP0
          have HLA : Hid (Calls _ _ _ _ _) := wlistT w w8 _ ba K' n' _ Hσ.out.1 (by simp at hK'; omega) hO.two
          clear HC hO hPl HPN HR0
          go_wp2_with fail
          refine HLA.out.mono ?_
          rintro e w9 ⟨la, lc3, M3, rfl, hM3, hO⟩
          obtain ⟨hl1, hx1⟩ := ents_ok Hσ.out.1 hM3
          have hO1 : Own w w9 [EntsT la lc3 M3, EntsT ta tc M2, WdT ba ⟨1 + j + 1, σ, [], S1, []⟩ K' n'] := hO.sel 4 [0, 3, 1] (by decide)
          have HSE : Hid (Calls _ _ _ _ _) := same_ents w w9 _ la ta lc3 tc M3 M2 (by rw [HM2.out]; exact hM3) (by omega) (fun x hx => Nat.le_trans (hx1 x hx).2.1 (by decide)) hO1
          rw [HTL.out] at HSE
          clear HLA hO hO1 hM3 hl1 hx1
          generalize M3.length = ml3 at *
          go_wp2_with fail
          refine HSE.out.mono ?_
          rintro e w10 ⟨rfl, hO⟩
          have HPC : Hid (Calls _ _ _ _ _) := wplaces w w10 _ ba K' n' _ (by show (0 : Nat) ≤ _; decide) hO.three
          clear HSE hO
          go_wp2_with fail
          refine HPC.out.mono ?_
          rintro e w11 ⟨pa, pc, rfl, hO⟩
          have HSN : Hid (Calls _ _ _ _ _) := wsinceS w w11 _ ba K' n' _ Hσ.out.1 1 hO.two
          have hf0 : σ.S.list.filter (fun id => chS S1 id 1) = [] := by
            rw [List.filter_eq_nil_iff]
            intro id _
            rw [chS_no (fun k s hs => by
              rw [HS1.out] at hs
              have := look_first Hσ.out.1 hs
              omega)]
            simp
          simp only [hf0] at HSN
          clear HPC hO hf0
          go_wp2_with fail
          refine HSN.out.mono ?_
          rintro e w12 ⟨sa, sc, rfl, hO⟩
          have H12 : Hid (Own w w12 [EntsT ta tc M2, WdT ba ⟨1 + (j + 1), σ, [], S1, []⟩ K' n']) := by
            show Own _ _ _
            rw [show 1 + (j + 1) = 1 + j + 1 by omega]
            exact hO.sel 5 [4, 1] (by decide)
          clear HSN hO
          simp at hK'
          go_wp2
          exact ⟨⟨j + 1, K', n', [], rfl, by omega, by omega, hn', H12.out⟩, by simp [intOf]; omega⟩
        · have hjc' : ¬ (j : Int) < (cnt : Int) := by omega
          have HF : Hid (Fr Nobody w wr) := hO.fr
          clear hO
          go_wp2
          go_ret
          exact ⟨rfl, HF.out⟩
theorem worldQuiet_walk (w : World) (ht : Tab w) (a0 : Option Addr) (len0 cap0 : Nat) (z0 : List LsE) (w0 : IsLss w a0 len0 cap0 z0) (n1 : Int) (w1 : (Lit.int .u8 n1).wf = true) :
    Calls Tryz.prog 6 #[.slice a0 len0 cap0, .int .u8 n1] w fun e w' => e = .returned (.bool true) ∧ Below w.heap.size w w' := by
  have h1 : 0 ≤ n1 ∧ n1 ≤ 255 := by simpa [Lit.wf, IntKind.min, IntKind.max, IntKind.signed, IntKind.bits] using w1
  obtain ⟨nn, rfl⟩ := Int.eq_ofNat_of_zero_le h1.1
  refine (worldQuiet_fr w ht a0 len0 cap0 z0 w0 nn (by omega)).mono ?_
  rintro e w' ⟨rfl, hf⟩
  exact ⟨rfl, hf.below (Nat.le_refl _) (fun _ _ => id)⟩
theorem laidOut : laidOutB Tryz.prog = true := by kernel_rfl

set_option maxRecDepth 100000 in
theorem worldQuiet_lifted (os : Os) (started : os.Started) (H : Type) (enc : TypeId × Value → H) :
    ReturnsInHanded {} Tryz.checked os 6 .any (fun w args => (Rows.worldQuietSpec.pre enc Tryz.prog Tryz.f6 [] false w args ∧ laidMetH Tryz.prog laid1 w) ∧ sizedMet enc Tryz.prog Tryz.f6 (OpenSpec.ofChange Rows.worldQuietSpec) false w args) (Rows.worldQuietSpec.post enc Tryz.prog Tryz.f6 false true false false) := by
  refine returnsInHanded_of_change_and (C := Tryz.checked) (X := fun w _ => laidMetH Tryz.prog laid1 w) (fun _ _ _ hh h => h.of_heap hh) own started (by kernel_rfl) Tryz.func6
    (ChangeSpec.witness_shaped (enc := enc) (C := Tryz.checked) (os := os) (X := fun w _ => laidMetH Tryz.prog laid1 w) false (World.doorLaid Tryz.prog 400 os) #[.slice none 0 0, .int .u8 0] 8 rfl (World.shaped_of_RefB (by kernel_rfl) (by kernel_rfl)) (by kernel_rfl) (by kernel_rfl) (by kernel_rfl) (door_met os _)) ?_
  intro W base args ds gs before hval0 hW _ _ hL _
  have hval : ∀ (j : Nat) t v, Tryz.f6.params[j]? = some t → args[j]? = some v → Value.okWide Tryz.prog W .any base t v := hval0
  have hW' := hW
  obtain ⟨p, q, hA0, hV, rfl, hfz, hnd⟩ := hW
  have hA : DataW.TrodAll enc Tryz.prog W 0 (fun _ => true) true Tryz.f6.params.toList args.toList ds p := hA0
  rw [Tryz.params6] at hA hval
  obtain ⟨v0, vs0, d0, ds0, p0, q0, hargs, rfl, rfl, h0, r0⟩ := trodAll_cons hA
  obtain ⟨v1, vs1, d1, ds1, p1, q1, rfl, rfl, rfl, h1, r1⟩ := trodAll_cons r0
  obtain ⟨rfl, rfl, rfl⟩ := trodAll_nil r1
  obtain rfl : args = #[v0, v1] := by cases args; simp_all
  obtain ⟨rfl, rfl⟩ := trodVars_none hV
  obtain ⟨a0, len0, cap0, rfl⟩ := okWide_slice Tryz.underlying83 (hval 0 83 v0 rfl rfl)
  have k0 := h0
  have lt0 : ∀ x ∈ p0, x.block < W.heap.size := by obtain ⟨m, hm⟩ := k0; exact DataW.trod_lt m _ _ _ hm
  obtain ⟨z0, w0⟩ := open_lss (hval 0 83 _ rfl rfl) h0
  obtain ⟨a1, rfl, rfl, rfl, w1⟩ := open_int Tryz.underlying5 (hval 1 5 v1 rfl rfl) h1
  clear hA0 hval0
  refine (worldQuiet_walk W (of_laid hL) a0 len0 cap0 z0 w0 a1 w1).mono fun e W' ⟨he, bel⟩ => ?_
  subst he
  exact ⟨_, rfl, _, _, _, [], _, [], hW', trodAll_mk1 (shut_bool Tryz.underlying4 _), (trodAll_cons_mk (Below.trod laidOut (by kernel_rfl) (of_decide_eq_true (by kernel_rfl)) k0 bel lt0) (trodAll_cons_mk (shut_int Tryz.underlying5 w1) trodAll_mk0)), rfl, bel.frame _, fun h => by cases h⟩

theorem worldQuiet_row : Rows.WorldQuietSaid :=
  OpenClaim.holds_of_wide 6 Tryz.f6 rfl rfl rfl rfl rfl rfl rfl ⟨rfl, rfl, rfl, rfl, rfl⟩ rfl rfl rfl rfl rfl (by kernel_rfl) Tryz.func6 (by kernel_rfl)
    (of_decide_eq_true (by kernel_rfl)) (by unfold Func.isWrapper; first | (rw [if_pos (by decide +kernel)]; kernel_rfl) | (rw [if_neg (by decide +kernel)]; exact ⟨rfl, rfl⟩))
    (fun os started H enc _ => worldQuiet_lifted os started H enc)

theorem worldQuiet_holds : Rows.WorldQuietCardSaid :=
  Claim7.holds_tied_plain_at .later [] [.data] true (true, "a45a48472d794549e4b14cca92a05f8dfece0fb79fef83cb0bedfed76c5d7748") false
    worldQuiet_row (fun _ h => by cases h) (by kernel_rfl) (fun _ h => by cases h) worldQuiet_row_tie rfl ⟨rfl, rfl⟩ (by kernel_rfl) rfl
    (fun f fn hf hfn => by
      obtain rfl : f = 6 := Option.some.inj ((show Tryz.prog.funcNamed "pinnace/pinnacelaw15.WorldQuiet" = some 6 by kernel_rfl).symm.trans hf) |>.symm
      obtain rfl : fn = Tryz.f6 := (Option.some.inj (Tryz.func6.symm.trans hfn)).symm
      exact ⟨by kernel_rfl, fun j t ht => by
        rw [Tryz.params6] at ht
        have hm : t ∈ [83, 5] := by simpa using Array.mem_of_getElem? ht
        have hall : ([83, 5].all fun u => !Tryz.prog.wantsStandIn u) = true := by kernel_rfl
        exact (show Tryz.prog.wantsStandIn t = false by simpa using List.all_eq_true.1 hall t hm)⟩)
    (by kernel_rfl)

end Go.Proofs.YtflmgilmbppieaaGreatDoor
