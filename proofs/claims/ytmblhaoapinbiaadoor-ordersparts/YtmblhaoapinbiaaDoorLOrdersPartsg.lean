/-
  Orders that are done in two goes are done as in one: OrdersParts returns true, whatever its arguments, where the table of the components lies as the program's text lays it, and changes nothing that was there.
-/
import Derived.Test.YtmblhaoapinbiaaDoorQng
import Derived.OpenShut
import Derived.SevenTiedAt
namespace Go.Proofs.YtmblhaoapinbiaaDoor
open Go.ChangeShapes Go.WideShapes Go.ChangeAt Go.RowKit
set_option linter.unusedVariables false
set_option maxRecDepth 100000

theorem Own.five {w0 w : World} {P Q R S T : Thing} {l : List Thing} (h : Own w0 w (P :: Q :: R :: S :: T :: l)) : Own w0 w (T :: P :: Q :: R :: S :: l) := h.perm (List.perm_middle (l₁ := [P, Q, R, S]) (a := T) (l₂ := l))
theorem row_capx {w : World} {base : Nat} {e : TypeId} {size n cap : Nat} {ao : Option Addr} {xs : List Value} (h : w.ownsRow base e size (.slice ao n cap) n xs) : n ≤ cap ∧ cap ≤ maxLen ∧ ((n = 0 ∧ cap = 0) ∨ ∃ g, ao = some ⟨g, 0, none⟩) := by
  rcases h.2 with ⟨hv, hn⟩ | ⟨g, c, cur, hv, hb, hg, hnc, hcm, hcs, htake⟩
  · cases hv
    exact ⟨Nat.le_refl _, Nat.zero_le _, .inl ⟨rfl, rfl⟩⟩
  · cases hv
    exact ⟨hnc, hcm, .inr ⟨g, rfl⟩⟩
theorem one_res (L : List (Int × Nat)) : ∀ u ∈ cat rcel L, u.oneCell' = true := by
  intro u hu
  obtain ⟨x, _, hx⟩ := List.mem_flatMap.1 hu
  simp [rcel] at hx
  rcases hx with rfl | rfl <;> rfl
theorem rem_nat (cut n : Nat) : (cut : Int).tmod ((n : Int) + 1) = ((cut % (n + 1) : Nat) : Int) := by
  rw [Int.tmod_eq_emod_of_nonneg (Int.natCast_nonneg _)]
  exact (Int.natCast_emod cut (n + 1)).symm
set_option maxHeartbeats 8000000 in
theorem ordersParts_fr (w : World) (ht : Tab w) (ao : Option Addr) (len cap : Nat) (Q : List OrdE) (hQl : Q.length = len) (hlc : len ≤ cap) (hcm : cap ≤ maxLen) (hOr : Ords w ao Q) (hw : ∀ o ∈ Q, o.d < 256 ∧ o.id < 4294967296 ∧ o.k < 256 ∧ IsComps w o.ao o.C.length o.cap o.C) (cut : Nat) (hcut : cut < 256) :
    Calls Tryd.prog 3 #[.slice ao len cap, .int .u8 (cut : Int)] w fun e w' => e = .returned (.bool true) ∧ Fr Nobody w w' := by
  unfold maxLen at hcm
  obtain ⟨i0, hi0, hz0, hz1, hz2⟩ := info_parts Tryd.infoRes
  have HT : Hid (Tab w) := ht
  obtain ⟨L, hL⟩ : ∃ L, few4 Q = L := ⟨_, rfl⟩
  obtain ⟨n, hn⟩ : ∃ n, L.length = n := ⟨_, rfl⟩
  have hn40 : n ≤ 40 := by rw [← hn, ← hL]; exact few4_len Q
  have HLI : Hid (∀ x ∈ L, Cs w x.ao x.C ∧ x.In ∧ x.C.length ≤ 20) := by
    intro x hx
    rw [← hL] at hx
    obtain ⟨o, ho, rfl⟩ := List.mem_map.1 hx
    have ho := List.mem_of_mem_take ho
    obtain ⟨h1, h2, h3, h4⟩ := hw o ho
    have hl : (o.C.take 20).length ≤ 20 := by rw [List.length_take]; exact Nat.min_le_left _ _
    exact ⟨(hOr.2 o ho).take 20, ⟨h1, h2, h3, fun q hq => h4.cs.2 q (List.mem_of_mem_take hq), Nat.le_trans hl (by decide)⟩, hl⟩
  have HFW : Hid (∀ w', Own w w' [] → Calls Tryd.prog 5 #[.slice ao len cap, .int .i64 40] w' fun e w'' => ∃ ra rc, e = .returned (.slice ra n rc) ∧ Own w w'' [Row 46 4 (.slice ra n rc) n (cat OrdE.cs L)]) := by
    intro w' h'
    have := few4_ok w w' [] h' ao len cap Q hQl (by omega) (fun w'' h'' => hOr.quiet h''.fr) (fun o ho => ⟨(hw o ho).2.2.2.2.1, (hw o ho).2.2.2.2.2.1⟩)
    rw [hL, hn] at this
    exact this
  have HN : Hid (L.length = n) := hn
  obtain ⟨k, hk⟩ : ∃ k, cut % (n + 1) = k := ⟨_, rfl⟩
  have hkn : k ≤ n := by have := Nat.mod_lt cut (show 0 < n + 1 by omega); omega
  have hrem : (cut : Int).tmod ((n : Int) + 1) = (k : Int) := by rw [rem_nat, hk]
  have hn0 : ((n : Int) + 1 == 0) = false := by rw [beq_eq_false_iff_ne]; omega
  have hn0' : ¬ ((n : Int) + 1 = 0) := by omega
  obtain ⟨m, hm⟩ : ∃ m, n - k = m := ⟨_, rfl⟩
  have hkm : k + m = n := by omega
  have HI1 : Hid (∀ x ∈ L.take k, x.In) := fun x hx => (HLI.out x (List.mem_of_mem_take hx)).2.1
  have HI2 : Hid (∀ x ∈ L.drop k, x.In) := fun x hx => (HLI.out x (List.mem_of_mem_drop hx)).2.1
  have HRL : Hid (∀ w' la lc l', Own w w' (Row 46 4 (.slice la n lc) n (cat OrdE.cs L) :: l') → Ords w' la L) := fun w' la lc l' h' => Own.ords h' HN.out (fun x hx => (HLI.out x hx).1.quiet h'.fr)
  have HL20 : Hid (∀ x ∈ L, x.C.length ≤ 1000) := fun x hx => Nat.le_trans (HLI.out x hx).2.2 (by decide)
  have HS0 : Hid (Sto.Ok (Sto.new 8 1)) := Sto.new_ok 8 1 (by decide) (by decide) (by decide) (by decide)
  obtain ⟨s0, hs0⟩ : ∃ s0 : Sto × Nat, s0 = (Sto.new 8 1, 0) := ⟨_, rfl⟩
  have HS0 : Hid (s0.1.Ok ∧ s0.2 = 0) := by rw [hs0]; exact ⟨HS0.out, rfl⟩
  have HS02 : Hid (s0.2 = 0) := HS0.out.2
  have HNW : Hid (∀ w' l', Own w w' l' → Calls Tryd.prog 6 #[.int .i64 8, .int .i64 1] w' fun e w'' => ∃ b, e = .returned (.tuple #[.pointer (some ⟨b, 0, none⟩), .int .i64 0]) ∧ Own w w'' (Store b s0.1 s0.2 :: l')) := by
    intro w' l' h'
    rw [hs0]
    exact snew w w' l' 8 1 h' (by decide) (by decide) (by decide) (by decide)
  have HTW : Hid (∀ w' la lc ba bb, Own w w' [Store bb s0.1 s0.2, Store ba s0.1 s0.2, Row 46 4 (.slice la n lc) n (cat OrdE.cs L)] → Calls Tryd.prog 8 #[.slice la n lc] w' fun e w'' => ∃ E ra rc, e = .returned (.slice ra n rc) ∧ E.map OrdE.is = L.map OrdE.is ∧ E.length = n ∧ Own w w'' (Row 46 4 (.slice ra n rc) n (cat OrdE.cs E) :: (E.map orow ++ [Store ba s0.1 s0.2, Store bb s0.1 s0.2, Row 46 4 (.slice la n lc) n (cat OrdE.cs L)]))) := fun w' la lc ba bb h' => twins_ok w w' _ h'.two la n lc L HN.out (by omega) (fun w'' h'' => HRL.out _ _ _ _ h''.three) HL20.out
  have HTP : Hid (∀ w' la lc B l' v j c (Q : List OrdE), Own w w' (B :: Row 46 4 (.slice la n lc) n (cat OrdE.cs L) :: l') → Q.length = j → j ≤ n → (∀ x ∈ Q, x ∈ L) → (∀ w', Ords w' la L → Ords w' v Q) → Calls Tryd.prog 8 #[.slice v j c] w' fun e w'' => ∃ E ra rc, e = .returned (.slice ra j rc) ∧ E.map OrdE.is = Q.map OrdE.is ∧ E.length = j ∧ Own w w'' (Row 46 4 (.slice ra j rc) j (cat OrdE.cs E) :: (E.map orow ++ (B :: Row 46 4 (.slice la n lc) n (cat OrdE.cs L) :: l')))) := fun w' la lc B l' v j c Q h' h1 h2 h3 h4 => twins_ok w w' _ h' v j c Q h1 (by omega) (fun w'' h'' => h4 _ (HRL.out _ _ _ _ h''.two)) (fun x hx => HL20.out x (h3 x hx))
  have HAP : Hid (∀ w' R b (s : Sto × Nat) ra j rc E (Q : List OrdE), Own w w' (Row 46 4 (.slice ra j rc) j (cat OrdE.cs E) :: (E.map orow ++ Store b s.1 s.2 :: R)) → E.map OrdE.is = Q.map OrdE.is → E.length = j → j ≤ n → s.1.Ok → s.2 ≤ 100 → (∀ x ∈ Q, x ∈ L) → Calls Tryd.prog 7 #[.pointer (some ⟨b, 0, none⟩), .slice ra j rc] w' fun e w'' => ∃ xa xc, e = .returned (.slice xa j xc) ∧ Own w w'' (Row 48 2 (.slice xa j xc) j (cat rcel (runs stq s Q).1) :: Store b (runs stq s Q).2.1 (runs stq s Q).2.2 :: R) ∧ (runs stq s Q).2.1.Ok ∧ (runs stq s Q).2.2 = s.2 + 2 * j) := fun w' R b s ra j rc E Q h' hE hEl hj hs1 hs2 hQ => all_part w w' R b s HT.out ra j rc E Q h' hE hEl hs1 (by omega) (by omega) (fun x hx => (HLI.out x (hQ x hx)).2.1)
  have HAL : Hid (∀ w' R b ra rc E, Own w w' (Row 46 4 (.slice ra n rc) n (cat OrdE.cs E) :: (E.map orow ++ Store b s0.1 s0.2 :: R)) → E.map OrdE.is = L.map OrdE.is → E.length = n → Calls Tryd.prog 7 #[.pointer (some ⟨b, 0, none⟩), .slice ra n rc] w' fun e w'' => ∃ xa xc, e = .returned (.slice xa n xc) ∧ Own w w'' (Row 48 2 (.slice xa n xc) n (cat rcel (runs stq s0 L).1) :: Store b (runs stq s0 L).2.1 (runs stq s0 L).2.2 :: R) ∧ (runs stq s0 L).2.1.Ok ∧ (runs stq s0 L).2.2 = s0.2 + 2 * n) := fun w' R b ra rc E h' hE hEl => all_part w w' R b s0 HT.out ra n rc E L h' hE hEl HS0.out.1 (by omega) (by rw [HS0.out.2]; omega) (fun x hx => (HLI.out x hx).2.1)
  clear ht hOr hw hQl hn hL hk hs0
  go_enter Tryd.func3, Tryd.ntmps3
  go_wp2_with fail
  refine (awake13 w w [] HT.out (Own.start _)).mono ?_
  rintro e w1 ⟨rfl, hO1⟩
  have H1 : Hid (Own w w1 []) := hO1
  clear hO1
  go_wp2_with fail
  refine (HFW.out _ H1.out).mono ?_
  rintro e w2 ⟨la, lc, rfl, hO2⟩
  obtain ⟨hlc2, hlc3, hla⟩ := row_capx hO2.row
  unfold maxLen at hlc3
  have H2 : Hid (Own w w2 _) := hO2
  clear hO2 H1 HFW
  go_wp2_with fail
  refine (HNW.out _ _ H2.out).mono ?_
  rintro e w3 ⟨ba, rfl, hO3⟩
  have H3 : Hid (Own w w3 _) := hO3
  clear hO3 H2
  go_wp2_with fail
  refine (HNW.out _ _ H3.out).mono ?_
  rintro e w4 ⟨bb, rfl, hO4⟩
  have H4 : Hid (Own w w4 _) := hO4
  clear hO4 H3 HNW
  go_wp2_with fail
  refine (HTW.out _ _ _ _ _ H4.out).mono ?_
  rintro e w5 ⟨E, ea, ec, rfl, hE, hEl, hO5⟩
  have HA1 : Hid (Calls _ _ _ _ _) := HAL.out _ _ _ _ _ _ hO5 hE hEl
  clear hO5 hE hEl H4 HTW HAL E
  go_wp2_with fail
  refine HA1.out.mono ?_
  rintro e w6 ⟨xa, xc, rfl, hO6, hSo, hSc⟩
  have HSX : Hid ((runs stq s0 L).2.1.Ok ∧ (runs stq s0 L).2.2 = s0.2 + 2 * n) := ⟨hSo, hSc⟩
  clear hSo hSc HA1
  have H6 : Hid (Own w w6 [Store bb s0.1 s0.2, Row 46 4 (.slice la n lc) n (cat OrdE.cs L), Row 48 2 (.slice xa n xc) n (cat rcel (runs stq s0 L).1), Store ba (runs stq s0 L).2.1 (runs stq s0 L).2.2]) := hO6.four.four
  clear hO6
  obtain ⟨s1, hs1⟩ : ∃ s1, (runs stq s0 (L.take k)).2 = s1 := ⟨_, rfl⟩
  have HR1 : Hid (runs stq s0 L = ((runs stq s0 (L.take k)).1 ++ (runs stq s1 (L.drop k)).1, (runs stq s1 (L.drop k)).2)) := by
    have := runs_app stq (L.take k) (L.drop k) s0
    rw [List.take_append_drop, hs1] at this
    exact this
  have HTL : Hid ((L.take k).length = k) := by show _ = _; rw [List.length_take, HN.out]; omega
  have HDL : Hid ((L.drop k).length = m) := by show _ = _; rw [List.length_drop, HN.out]; omega
  have HT1 : Hid (Calls _ _ _ _ _) := HTP.out _ la lc _ _ la k lc (L.take k) H6.out.drew HTL.out hkn (fun x hx => List.mem_of_mem_take hx) (fun w' h => h.part k)
  have HAP1 : Hid (∀ w' E ra rc, E.map OrdE.is = (L.take k).map OrdE.is → E.length = k → Own w w' (Row 46 4 (.slice ra k rc) k (cat OrdE.cs E) :: (E.map orow ++ [Store bb s0.1 s0.2, Row 46 4 (.slice la n lc) n (cat OrdE.cs L), Row 48 2 (.slice xa n xc) n (cat rcel (runs stq s0 L).1), Store ba (runs stq s0 L).2.1 (runs stq s0 L).2.2])) → Calls Tryd.prog 7 #[.pointer (some ⟨bb, 0, none⟩), .slice ra k rc] w' fun e w'' => ∃ ya yc, e = .returned (.slice ya k yc) ∧ Own w w'' [Store bb s1.1 s1.2, Row 46 4 (.slice la n lc) n (cat OrdE.cs L), Row 48 2 (.slice ya k yc) k (cat rcel (runs stq s0 (L.take k)).1), Row 48 2 (.slice xa n xc) n (cat rcel (runs stq s0 L).1), Store ba (runs stq s0 L).2.1 (runs stq s0 L).2.2] ∧ s1.1.Ok ∧ s1.2 ≤ 100) := by
    intro w' E ra rc hE hEl h'
    refine (HAP.out w' _ bb s0 ra k rc E (L.take k) h' hE hEl hkn HS0.out.1 (by rw [HS0.out.2]; omega) (fun x hx => List.mem_of_mem_take hx)).mono ?_
    rintro e w'' ⟨ya, yc, rfl, h1, h2, h3⟩
    rw [hs1] at h1 h2 h3
    exact ⟨ya, yc, rfl, h1.three.three, h2, by rw [h3, HS0.out.2]; omega⟩
  have HAP2 : Hid (∀ w' E ra rc ya yc, s1.1.Ok → s1.2 ≤ 100 → E.map OrdE.is = (L.drop k).map OrdE.is → E.length = m → Own w w' (Row 46 4 (.slice ra m rc) m (cat OrdE.cs E) :: (E.map orow ++ [Store bb s1.1 s1.2, Row 46 4 (.slice la n lc) n (cat OrdE.cs L), Row 48 2 (.slice ya k yc) k (cat rcel (runs stq s0 (L.take k)).1), Row 48 2 (.slice xa n xc) n (cat rcel (runs stq s0 L).1), Store ba (runs stq s0 L).2.1 (runs stq s0 L).2.2])) → Calls Tryd.prog 7 #[.pointer (some ⟨bb, 0, none⟩), .slice ra m rc] w' fun e w'' => ∃ za zc, e = .returned (.slice za m zc) ∧ Own w w'' [Row 48 2 (.slice za m zc) m (cat rcel (runs stq s1 (L.drop k)).1), Store bb (runs stq s0 L).2.1 (runs stq s0 L).2.2, Row 46 4 (.slice la n lc) n (cat OrdE.cs L), Row 48 2 (.slice ya k yc) k (cat rcel (runs stq s0 (L.take k)).1), Row 48 2 (.slice xa n xc) n (cat rcel (runs stq s0 L).1), Store ba (runs stq s0 L).2.1 (runs stq s0 L).2.2]) := by
    intro w' E ra rc ya yc hs1 hs2 hE hEl h'
    refine (HAP.out w' _ bb s1 ra m rc E (L.drop k) h' hE hEl (by omega) hs1 hs2 (fun x hx => List.mem_of_mem_drop hx)).mono ?_
    rintro e w'' ⟨za, zc, rfl, h1, h2, h3⟩
    refine ⟨za, zc, rfl, ?_⟩
    have e2 : (runs stq s1 (L.drop k)).2 = (runs stq s0 L).2 := by rw [HR1.out]
    rw [e2] at h1
    exact h1
  have HRS : Hid ((runs stq s0 (L.take k)).1 ++ (runs stq s1 (L.drop k)).1 = (runs stq s0 L).1 ∧ (runs stq s0 L).1.length = n) := ⟨by rw [HR1.out], by rw [runs_len, HN.out]⟩
  clear HR1 hs1 HAP HI1 HI2 HL20 HS0
  generalize (runs stq s0 L) = Z at *
  generalize (runs stq s0 (L.take k)).1 = Y1 at *
  generalize (runs stq s1 (L.drop k)).1 = Y2 at *
  obtain ⟨ZR, σ, K⟩ := Z
  simp only at HSX H6 HT1 HAP1 HAP2 HRS
  have h0k : (0 : Int) ≤ (k : Int) := by omega
  have hkl : (k : Int) ≤ (lc : Int) := by omega
  have hkl2 : k ≤ lc := by omega
  have hknI : (k : Int) ≤ (n : Int) := by omega
  have h0n : (0 : Int) ≤ (n : Int) := by omega
  have hnlI : (n : Int) ≤ (lc : Int) := by omega
  have hmI : (n : Int) - (k : Int) = (m : Int) := by omega
  have hkt : (k : Int).toNat = k := by omega
  by_cases e : lc = k
  · have hm0 : m = 0 := by omega
    have e' := e.symm
    clear e
    subst e'
    have hnk : k = n := by omega
    have hm0' : 0 = m := by omega
    subst hnk
    subst hm0'
    have HT2 : Hid (∀ w' ya yc, Own w w' [Store bb s1.1 s1.2, Row 46 4 (.slice la k k) k (cat OrdE.cs L), Row 48 2 (.slice ya k yc) k (cat rcel Y1), Row 48 2 (.slice xa k xc) k (cat rcel ZR), Store ba σ K] → Calls Tryd.prog 8 #[.slice la 0 0] w' fun e w'' => ∃ E ra rc, e = .returned (.slice ra 0 rc) ∧ E.map OrdE.is = (L.drop k).map OrdE.is ∧ E.length = 0 ∧ Own w w'' (Row 46 4 (.slice ra 0 rc) 0 (cat OrdE.cs E) :: (E.map orow ++ [Store bb s1.1 s1.2, Row 46 4 (.slice la k k) k (cat OrdE.cs L), Row 48 2 (.slice ya k yc) k (cat rcel Y1), Row 48 2 (.slice xa k xc) k (cat rcel ZR), Store ba σ K]))) := fun w' ya yc h' => HTP.out w' _ _ _ _ _ 0 _ (L.drop k) h' HDL.out (by omega) (fun x hx => List.mem_of_mem_drop hx) (fun w'' h'' => by rw [List.eq_nil_of_length_eq_zero (HDL.out)]; exact ⟨.inl rfl, fun x hx => absurd hx (by simp)⟩)
    clear hla HTP
    go_wp2_with fail
    go_region_held3 (fun _ => True) (trivial)
      (first
        | (go_at_call 8; refine HT1.out.mono ?_; rintro e w7 ⟨E1, ra1, rc1, rfl, hE1, hEl1, hO7⟩
           have HA1 : Hid (Calls _ _ _ _ _) := HAP1.out _ _ _ _ hE1 hEl1 hO7
           clear hO7 hE1 hEl1 HT1 HAP1)
        | (go_at_call 7; refine HA1.out.mono ?_; rintro e w8 ⟨ya, yc, rfl, hO8, hs1, hs2⟩
           have HB1 : Hid (Calls _ _ _ _ _) := HT2.out _ _ _ hO8
           have HS1 : Hid (s1.1.Ok ∧ s1.2 ≤ 100) := ⟨hs1, hs2⟩
           clear hO8 hs1 hs2 HA1 HT2)
        | (go_at_call 8; refine HB1.out.mono ?_; rintro e w9 ⟨E2, ra2, rc2, rfl, hE2, hEl2, hO9⟩
           have HA2 : Hid (Calls _ _ _ _ _) := HAP2.out _ _ _ _ _ _ HS1.out.1 HS1.out.2 hE2 hEl2 hO9
           clear hO9 hE2 hEl2 HB1 HAP2 HS1)
        | (go_at_call 7; refine HA2.out.mono ?_; rintro e w10 ⟨za, zc, rfl, hO10⟩
           have HZ : Hid (Own w w10 _) := hO10
           clear hO10 HA2)
        | (refine step_all rfl _ _ 29 rfl 48 i0 (.agg #[.int .i64 0, .int .u32 0]) 2 16 Tryd.underlying29 hi0 hz0 hz1 hz2 rfl (by decide) _ k (cat rcel Y1) rfl _ 0 _ (cat rcel Y2) rfl HZ.out.four HZ.out.row (one_res Y2) (by unfold maxLen; omega) (by omega) ?_
           intro fa fc w11 hO11
           have H11 : Hid (Own w w11 [Row 48 2 (.slice fa k fc) k (cat rcel ZR), Store bb σ K, Row 48 2 (.slice xa k xc) k (cat rcel ZR), Store ba σ K]) := by
             have h := hO11.two.tail.three.tail
             rw [← cat_append, HRS.out.1, hkm] at h
             exact h
           clear hO11 HZ
           rw [hkm]))
    all_goals
      have HSR : Hid (Calls _ _ _ _ _) := same_res w11 xa fa k xc fc ZR (Own.rs H11.out.three HRS.out.2) (Own.rs H11.out HRS.out.2) HRS.out.2 (by omega)
      go_wp2_with fail
      refine HSR.out.mono ?_
      rintro e w12 ⟨rfl, hf⟩
      have HL1 : Hid (Calls _ _ _ _ _) := slen w w12 _ ba σ K (H11.out.quiet hf).four
      clear hf HSR H11
      go_wp2_with fail
      refine HL1.out.mono ?_
      rintro e w13 ⟨rfl, hO13⟩
      have HL2 : Hid (Calls _ _ _ _ _) := slen w w13 _ bb σ K hO13.three
      have hne : ((σ.S.live : Int) != (σ.S.live : Int)) = false := by simp
      have hne' : ((σ.S.live : Int) == (σ.S.live : Int)) = true := by simp
      clear hO13 HL1
      go_wp2_with fail
      refine HL2.out.mono ?_
      rintro e w14 ⟨rfl, hO14⟩
      have HLS : Hid (Calls _ _ _ _ _) := slist w w14 _ ba σ K hO14.two HSX.out.1.s
      clear hO14 HL2
      go_wp2_with fail
      refine HLS.out.mono ?_
      rintro e w15 ⟨v, rfl, hO15⟩
      obtain ⟨va, vc, rfl⟩ := row_any hO15.row
      obtain ⟨hv1, hv2, _⟩ := row_capx hO15.row
      unfold maxLen at hv2
      have H15 : Hid (Own w w15 [Row 37 1 (.slice va σ.S.list.length vc) σ.S.list.length (irow .u32 σ.S.list), Store ba σ K, Store bb σ K]) := hO15.four.tail.four.tail
      obtain ⟨I, hI⟩ : ∃ I, σ.S.list = I := ⟨_, rfl⟩
      obtain ⟨nl, hnl⟩ : ∃ nl, I.length = nl := ⟨_, rfl⟩
      rw [hI, hnl] at H15 hv1
      rw [hI, hnl]
      have HI : Hid (σ.S.list = I ∧ I.length = nl) := ⟨hI, hnl⟩
      clear hO15 HLS hne hne' hI hnl
      go_wp2
      go_loopw [67] (fun jv wr => ∃ j : Nat, j ≤ nl ∧ jv = .int .i64 j ∧ Own w wr [Row 37 1 (.slice va nl vc) nl (irow .u32 I), Store ba σ K, Store bb σ K]) (fun jv _ => nl - (intOf jv).toNat)
      case atStart => exact ⟨0, Nat.zero_le _, rfl, H15.out⟩
      case round =>
        obtain ⟨j, hj, rfl, hO⟩ := hrel
        clear H15
        by_cases hlt : j < nl
        · have hlt' : (j : Int) < (nl : Int) := by omega
          obtain ⟨id, hid⟩ : ∃ id, I[j]? = some id := ⟨_, List.getElem?_eq_getElem (by rw [HI.out.2]; exact hlt)⟩
          obtain ⟨hli, h32⟩ := St.list_is HSX.out.1.s (show id ∈ σ.S.list by rw [HI.out.1]; exact List.mem_of_getElem? hid)
          obtain ⟨r, C, he⟩ := Sto.ent_at HSX.out.1 hli
          have hC6 : C.length ≤ 6 := lst_len ((HSX.out.1.t _ (HSX.out.1.home hli).1).ok _ (List.mem_of_getElem? he)).1
          obtain ⟨gv, cv, hv', _⟩ := row_shape hO.row (by omega)
          have hva := (Value.slice.inj hv').1
          subst hva
          have q : wr.cell? ⟨gv, j, none⟩ = some (.int .u32 (id : Int)) := by rw [hO.row.cellAt _ (by omega), getElem?_irow, hid]; rfl
          have HE1 : Hid (Calls _ _ _ _ _) := sent w wr _ ba σ K hO.two HSX.out.1 id h32 hli r C he (by rw [HSX.out.2]; have := HS02.out; omega)
          have HE2 : Hid (∀ w' l', Own w w' (Store bb σ K :: l') → Calls Tryd.prog 12 #[.pointer (some ⟨bb, 0, none⟩), .int .u32 (id : Int)] w' fun e w' => ∃ ao cap, e = .returned (.tuple #[.agg #[.int .u32 (id : Int), .slice ao C.length cap], .int .i64 0]) ∧ Own w w' (Row 76 4 (.slice ao C.length cap) C.length (ccat C) :: Store bb σ K :: l')) := fun w' l' h' => sent w w' l' bb σ K h' HSX.out.1 id h32 hli r C he (by rw [HSX.out.2]; have := HS02.out; omega)
          have HCL : Hid (C.length ≤ 6) := hC6
          clear hO hid hli he hv' hC6
          go_wp2_with fail
          refine HE1.out.mono ?_
          rintro e w20 ⟨ca, cc, rfl, hO20⟩
          have hX := (hO20.allocC #[.int .u32 (id : Int), .slice ca C.length cc] 40)
          have HE3 : Hid (Calls _ _ _ _ _) := HE2.out _ _ hX.five
          obtain ⟨X, hXe⟩ : ∃ X, X = w20.heap.size := ⟨_, rfl⟩
          rw [← hXe] at HE3
          have hXI : w20.heap.size = X := hXe.symm
          clear hO20 hX hXe HE1 HE2 q
          go_wp2_with fail
          refine HE3.out.mono ?_
          rintro e w21 ⟨da, dc, rfl, hO21⟩
          have hY := (hO21.allocC #[.int .u32 (id : Int), .slice da C.length dc] 40)
          have y0 := hY.cell 0
          have y1 := hY.cell 1
          have x0 := hY.four.cell 0
          have x1 := hY.four.cell 1
          simp at x0 x1 y0 y1
          have HSE : Hid (Calls _ _ _ _ _) := sameEnt_any _ id ca da C.length cc dc C (Own.rcs hY.five rfl) (Own.rcs hY.two rfl) rfl (by have := HCL.out; omega)
          have H21 : Hid (Own w _ [Row 37 1 (.slice (some ⟨gv, 0, none⟩) nl vc) nl (irow .u32 I), Store ba σ K, Store bb σ K]) := hY.tail.tail.two.tail.two.tail.three.in23
          clear hO21 hY HE3 hXI
          go_wp2_with fail
          refine HSE.out.mono ?_
          rintro e w22 ⟨rfl, hf⟩
          have H22 : Hid (Own w w22 _) := H21.out.quiet hf
          clear hf HSE H21 x0 x1 y0 y1
          go_wp2
          go_roundw
          case rel => exact ⟨j + 1, by omega, by go_num, H22.out⟩
          case measure => simp [intOf]; omega
        · have hlt' : ¬ (j : Int) < (nl : Int) := by omega
          have HO : Hid (Own w wr _) := hO
          clear hO
          go_wp2
          go_ret
          exact ⟨rfl, HO.out.fr⟩
  · obtain ⟨g, rfl⟩ : ∃ g, la = some ⟨g, 0, none⟩ := by
      rcases hla with ⟨h1, h2⟩ | h
      · exact absurd (by omega) e
      · exact h
    have HT2 : Hid (∀ w' ya yc, Own w w' [Store bb s1.1 s1.2, Row 46 4 (.slice (some ⟨g, 0, none⟩) n lc) n (cat OrdE.cs L), Row 48 2 (.slice ya k yc) k (cat rcel Y1), Row 48 2 (.slice xa n xc) n (cat rcel ZR), Store ba σ K] → Calls Tryd.prog 8 #[.slice (some ⟨g, k * 4, none⟩) m (lc - k)] w' fun e w'' => ∃ E ra rc, e = .returned (.slice ra m rc) ∧ E.map OrdE.is = (L.drop k).map OrdE.is ∧ E.length = m ∧ Own w w'' (Row 46 4 (.slice ra m rc) m (cat OrdE.cs E) :: (E.map orow ++ [Store bb s1.1 s1.2, Row 46 4 (.slice (some ⟨g, 0, none⟩) n lc) n (cat OrdE.cs L), Row 48 2 (.slice ya k yc) k (cat rcel Y1), Row 48 2 (.slice xa n xc) n (cat rcel ZR), Store ba σ K]))) := fun w' ya yc h' => HTP.out w' _ _ _ _ _ m _ (L.drop k) h' HDL.out (by omega) (fun x hx => List.mem_of_mem_drop hx) (fun w'' h'' => by have := h''.rest k; rw [Nat.zero_add] at this; exact this)
    clear hla HTP
    go_wp2_with fail
    go_region_held3 (fun _ => True) (trivial)
      (first
        | (go_at_call 8; refine HT1.out.mono ?_; rintro e w7 ⟨E1, ra1, rc1, rfl, hE1, hEl1, hO7⟩
           have HA1 : Hid (Calls _ _ _ _ _) := HAP1.out _ _ _ _ hE1 hEl1 hO7
           clear hO7 hE1 hEl1 HT1 HAP1)
        | (go_at_call 7; refine HA1.out.mono ?_; rintro e w8 ⟨ya, yc, rfl, hO8, hs1, hs2⟩
           have HB1 : Hid (Calls _ _ _ _ _) := HT2.out _ _ _ hO8
           have HS1 : Hid (s1.1.Ok ∧ s1.2 ≤ 100) := ⟨hs1, hs2⟩
           clear hO8 hs1 hs2 HA1 HT2)
        | (go_at_call 8; refine HB1.out.mono ?_; rintro e w9 ⟨E2, ra2, rc2, rfl, hE2, hEl2, hO9⟩
           have HA2 : Hid (Calls _ _ _ _ _) := HAP2.out _ _ _ _ _ _ HS1.out.1 HS1.out.2 hE2 hEl2 hO9
           clear hO9 hE2 hEl2 HB1 HAP2 HS1)
        | (go_at_call 7; refine HA2.out.mono ?_; rintro e w10 ⟨za, zc, rfl, hO10⟩
           have HZ : Hid (Own w w10 _) := hO10
           clear hO10 HA2)
        | (refine step_all rfl _ _ 29 rfl 48 i0 (.agg #[.int .i64 0, .int .u32 0]) 2 16 Tryd.underlying29 hi0 hz0 hz1 hz2 rfl (by decide) _ k (cat rcel Y1) rfl _ m _ (cat rcel Y2) rfl HZ.out.four HZ.out.row (one_res Y2) (by unfold maxLen; omega) (by omega) ?_
           intro fa fc w11 hO11
           have H11 : Hid (Own w w11 [Row 48 2 (.slice fa n fc) n (cat rcel ZR), Store bb σ K, Row 48 2 (.slice xa n xc) n (cat rcel ZR), Store ba σ K]) := by
             have h := hO11.two.tail.three.tail
             rw [← cat_append, HRS.out.1, hkm] at h
             exact h
           clear hO11 HZ
           rw [hkm]))
    all_goals
      have HSR : Hid (Calls _ _ _ _ _) := same_res w11 xa fa n xc fc ZR (Own.rs H11.out.three HRS.out.2) (Own.rs H11.out HRS.out.2) HRS.out.2 (by omega)
      go_wp2_with fail
      refine HSR.out.mono ?_
      rintro e w12 ⟨rfl, hf⟩
      have HL1 : Hid (Calls _ _ _ _ _) := slen w w12 _ ba σ K (H11.out.quiet hf).four
      clear hf HSR H11
      go_wp2_with fail
      refine HL1.out.mono ?_
      rintro e w13 ⟨rfl, hO13⟩
      have HL2 : Hid (Calls _ _ _ _ _) := slen w w13 _ bb σ K hO13.three
      have hne : ((σ.S.live : Int) != (σ.S.live : Int)) = false := by simp
      have hne' : ((σ.S.live : Int) == (σ.S.live : Int)) = true := by simp
      clear hO13 HL1
      go_wp2_with fail
      refine HL2.out.mono ?_
      rintro e w14 ⟨rfl, hO14⟩
      have HLS : Hid (Calls _ _ _ _ _) := slist w w14 _ ba σ K hO14.two HSX.out.1.s
      clear hO14 HL2
      go_wp2_with fail
      refine HLS.out.mono ?_
      rintro e w15 ⟨v, rfl, hO15⟩
      obtain ⟨va, vc, rfl⟩ := row_any hO15.row
      obtain ⟨hv1, hv2, _⟩ := row_capx hO15.row
      unfold maxLen at hv2
      have H15 : Hid (Own w w15 [Row 37 1 (.slice va σ.S.list.length vc) σ.S.list.length (irow .u32 σ.S.list), Store ba σ K, Store bb σ K]) := hO15.four.tail.four.tail
      obtain ⟨I, hI⟩ : ∃ I, σ.S.list = I := ⟨_, rfl⟩
      obtain ⟨nl, hnl⟩ : ∃ nl, I.length = nl := ⟨_, rfl⟩
      rw [hI, hnl] at H15 hv1
      rw [hI, hnl]
      have HI : Hid (σ.S.list = I ∧ I.length = nl) := ⟨hI, hnl⟩
      clear hO15 HLS hne hne' hI hnl
      go_wp2
      go_loopw [67] (fun jv wr => ∃ j : Nat, j ≤ nl ∧ jv = .int .i64 j ∧ Own w wr [Row 37 1 (.slice va nl vc) nl (irow .u32 I), Store ba σ K, Store bb σ K]) (fun jv _ => nl - (intOf jv).toNat)
      case atStart => exact ⟨0, Nat.zero_le _, rfl, H15.out⟩
      case round =>
        obtain ⟨j, hj, rfl, hO⟩ := hrel
        clear H15
        by_cases hlt : j < nl
        · have hlt' : (j : Int) < (nl : Int) := by omega
          obtain ⟨id, hid⟩ : ∃ id, I[j]? = some id := ⟨_, List.getElem?_eq_getElem (by rw [HI.out.2]; exact hlt)⟩
          obtain ⟨hli, h32⟩ := St.list_is HSX.out.1.s (show id ∈ σ.S.list by rw [HI.out.1]; exact List.mem_of_getElem? hid)
          obtain ⟨r, C, he⟩ := Sto.ent_at HSX.out.1 hli
          have hC6 : C.length ≤ 6 := lst_len ((HSX.out.1.t _ (HSX.out.1.home hli).1).ok _ (List.mem_of_getElem? he)).1
          obtain ⟨gv, cv, hv', _⟩ := row_shape hO.row (by omega)
          have hva := (Value.slice.inj hv').1
          subst hva
          have q : wr.cell? ⟨gv, j, none⟩ = some (.int .u32 (id : Int)) := by rw [hO.row.cellAt _ (by omega), getElem?_irow, hid]; rfl
          have HE1 : Hid (Calls _ _ _ _ _) := sent w wr _ ba σ K hO.two HSX.out.1 id h32 hli r C he (by rw [HSX.out.2]; have := HS02.out; omega)
          have HE2 : Hid (∀ w' l', Own w w' (Store bb σ K :: l') → Calls Tryd.prog 12 #[.pointer (some ⟨bb, 0, none⟩), .int .u32 (id : Int)] w' fun e w' => ∃ ao cap, e = .returned (.tuple #[.agg #[.int .u32 (id : Int), .slice ao C.length cap], .int .i64 0]) ∧ Own w w' (Row 76 4 (.slice ao C.length cap) C.length (ccat C) :: Store bb σ K :: l')) := fun w' l' h' => sent w w' l' bb σ K h' HSX.out.1 id h32 hli r C he (by rw [HSX.out.2]; have := HS02.out; omega)
          have HCL : Hid (C.length ≤ 6) := hC6
          clear hO hid hli he hv' hC6
          go_wp2_with fail
          refine HE1.out.mono ?_
          rintro e w20 ⟨ca, cc, rfl, hO20⟩
          have hX := (hO20.allocC #[.int .u32 (id : Int), .slice ca C.length cc] 40)
          have HE3 : Hid (Calls _ _ _ _ _) := HE2.out _ _ hX.five
          obtain ⟨X, hXe⟩ : ∃ X, X = w20.heap.size := ⟨_, rfl⟩
          rw [← hXe] at HE3
          have hXI : w20.heap.size = X := hXe.symm
          clear hO20 hX hXe HE1 HE2 q
          go_wp2_with fail
          refine HE3.out.mono ?_
          rintro e w21 ⟨da, dc, rfl, hO21⟩
          have hY := (hO21.allocC #[.int .u32 (id : Int), .slice da C.length dc] 40)
          have y0 := hY.cell 0
          have y1 := hY.cell 1
          have x0 := hY.four.cell 0
          have x1 := hY.four.cell 1
          simp at x0 x1 y0 y1
          have HSE : Hid (Calls _ _ _ _ _) := sameEnt_any _ id ca da C.length cc dc C (Own.rcs hY.five rfl) (Own.rcs hY.two rfl) rfl (by have := HCL.out; omega)
          have H21 : Hid (Own w _ [Row 37 1 (.slice (some ⟨gv, 0, none⟩) nl vc) nl (irow .u32 I), Store ba σ K, Store bb σ K]) := hY.tail.tail.two.tail.two.tail.three.in23
          clear hO21 hY HE3 hXI
          go_wp2_with fail
          refine HSE.out.mono ?_
          rintro e w22 ⟨rfl, hf⟩
          have H22 : Hid (Own w w22 _) := H21.out.quiet hf
          clear hf HSE H21 x0 x1 y0 y1
          go_wp2
          go_roundw
          case rel => exact ⟨j + 1, by omega, by go_num, H22.out⟩
          case measure => simp [intOf]; omega
        · have hlt' : ¬ (j : Int) < (nl : Int) := by omega
          have HO : Hid (Own w wr _) := hO
          clear hO
          go_wp2
          go_ret
          exact ⟨rfl, HO.out.fr⟩
theorem ordersParts_walk (w : World) (ht : Tab w) (a0 : Option Addr) (len0 cap0 : Nat) (z0 : List OrdE) (w0 : IsOrds w a0 len0 cap0 z0) (a1 : Int) (w1 : ok8 a1) :
    Calls Tryd.prog 3 #[.slice a0 len0 cap0, .int .u8 a1] w fun e w' => e = .returned (.bool true) ∧ Below w.heap.size w w' := by
  obtain ⟨h1, h2⟩ := w0.ords
  obtain ⟨cut, rfl, hcut⟩ := ok8_nat w1
  refine (ordersParts_fr w ht a0 len0 cap0 z0 w0.1 w0.2.1 w0.2.2.1 h1 h2 cut hcut).mono ?_
  rintro e w' ⟨rfl, hf⟩
  exact ⟨rfl, hf.below (Nat.le_refl _) (fun _ _ h => h)⟩
theorem laidOut : laidOutB Tryd.prog = true := by kernel_rfl

set_option maxRecDepth 100000 in
theorem ordersParts_lifted (os : Os) (started : os.Started) (H : Type) (enc : TypeId × Value → H) :
    ReturnsInHanded {} Tryd.checked os 3 .any (fun w args => (Rows.ordersPartsSpec.pre enc Tryd.prog Tryd.f3 [] false w args ∧ laidMetH Tryd.prog laid1 w) ∧ sizedMet enc Tryd.prog Tryd.f3 (OpenSpec.ofChange Rows.ordersPartsSpec) false w args) (Rows.ordersPartsSpec.post enc Tryd.prog Tryd.f3 false true false false) := by
  refine returnsInHanded_of_change_and (C := Tryd.checked) (X := fun w _ => laidMetH Tryd.prog laid1 w) (fun _ _ _ hh h => h.of_heap hh) own started (by kernel_rfl) Tryd.func3
    (ChangeSpec.witness_shaped (enc := enc) (C := Tryd.checked) (os := os) (X := fun w _ => laidMetH Tryd.prog laid1 w) false (World.doorLaid Tryd.prog 400 os) #[.slice none 0 0, .int .u8 0] 8 rfl (World.shaped_of_RefB (by kernel_rfl) (by kernel_rfl)) (by kernel_rfl) (by kernel_rfl) (by kernel_rfl) (door_met os _)) ?_
  intro W base args ds gs before hval0 hW _ _ hL _
  have hval : ∀ (j : Nat) t v, Tryd.f3.params[j]? = some t → args[j]? = some v → Value.okWide Tryd.prog W .any base t v := hval0
  have hW' := hW
  obtain ⟨p, q, hA0, hV, rfl, hfz, hnd⟩ := hW
  have hA : DataW.TrodAll enc Tryd.prog W 0 (fun _ => true) true Tryd.f3.params.toList args.toList ds p := hA0
  rw [Tryd.params3] at hA hval
  obtain ⟨v0, vs0, d0, ds0, p0, q0, hargs, rfl, rfl, h0, r0⟩ := trodAll_cons hA
  obtain ⟨v1, vs1, d1, ds1, p1, q1, rfl, rfl, rfl, h1, r1⟩ := trodAll_cons r0
  obtain ⟨rfl, rfl, rfl⟩ := trodAll_nil r1
  obtain rfl : args = #[v0, v1] := by cases args; simp_all
  obtain ⟨rfl, rfl⟩ := trodVars_none hV
  obtain ⟨a0, len0, cap0, rfl⟩ := okWide_slice Tryd.underlying22 (hval 0 22 v0 rfl rfl)
  have k0 := h0
  have lt0 : ∀ x ∈ p0, x.block < W.heap.size := by obtain ⟨m, hm⟩ := k0; exact DataW.trod_lt m _ _ _ hm
  obtain ⟨z0, w0⟩ := open_ops (hval 0 22 _ rfl rfl) h0
  obtain ⟨a1, rfl, rfl, rfl, w1⟩ := open_int Tryd.underlying5 (hval 1 5 v1 rfl rfl) h1
  clear hA0 hval0
  refine (ordersParts_walk W (of_laid hL) a0 len0 cap0 z0 w0 a1 w1).mono fun e W' ⟨he, bel⟩ => ?_
  subst he
  exact ⟨_, rfl, _, _, _, [], _, [], hW', trodAll_mk1 (shut_bool Tryd.underlying4 _), (trodAll_cons_mk (Below.trod laidOut (by kernel_rfl) (of_decide_eq_true (by kernel_rfl)) k0 bel lt0) (trodAll_cons_mk (shut_int Tryd.underlying5 w1) trodAll_mk0)), rfl, bel.frame _, fun h => by cases h⟩

theorem ordersParts_row : Rows.OrdersPartsSaid :=
  OpenClaim.holds_of_wide 3 Tryd.f3 rfl rfl rfl rfl rfl rfl rfl ⟨rfl, rfl, rfl, rfl, rfl⟩ rfl rfl rfl rfl rfl (by kernel_rfl) Tryd.func3 (by kernel_rfl)
    (of_decide_eq_true (by kernel_rfl)) (by unfold Func.isWrapper; first | (rw [if_pos (by decide +kernel)]; kernel_rfl) | (rw [if_neg (by decide +kernel)]; exact ⟨rfl, rfl⟩))
    (fun os started H enc _ => ordersParts_lifted os started H enc)

theorem ordersParts_holds : Rows.OrdersPartsCardSaid :=
  Claim7.holds_tied_plain_at .later [] [.data] true (true, "8276668bab19e9829eb3035287315e3732d2dd2158c11c716a9f71f4643afc47") false
    ordersParts_row (fun _ h => by cases h) (by kernel_rfl) (fun _ h => by cases h) ordersParts_row_tie rfl ⟨rfl, rfl⟩ (by kernel_rfl) rfl
    (fun f fn hf hfn => by
      obtain rfl : f = 3 := Option.some.inj ((show Tryd.prog.funcNamed "pinnace/pinnacelaw13.OrdersParts" = some 3 by kernel_rfl).symm.trans hf) |>.symm
      obtain rfl : fn = Tryd.f3 := (Option.some.inj (Tryd.func3.symm.trans hfn)).symm
      exact ⟨by kernel_rfl, fun j t ht => by
        rw [Tryd.params3] at ht
        have hm : t ∈ [22, 5] := by simpa using Array.mem_of_getElem? ht
        have hall : ([22, 5].all fun u => !Tryd.prog.wantsStandIn u) = true := by kernel_rfl
        exact (show Tryd.prog.wantsStandIn t = false by simpa using List.all_eq_true.1 hall t hm)⟩)
    (by kernel_rfl)

end Go.Proofs.YtmblhaoapinbiaaDoor
