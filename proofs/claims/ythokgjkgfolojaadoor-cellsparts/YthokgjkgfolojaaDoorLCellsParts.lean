/-
  A box cut in two has just those of its parts, and the box of the whole world has all: CellsParts returns true, whatever its arguments, where the table of the components lies as the program's text lays it, and changes nothing that was there.
-/
import Derived.Test.YthokgjkgfolojaaDoorCem
import Derived.Test.YthokgjkgfolojaaDoorCen
import Derived.OpenShut
import Derived.SevenTiedAt
namespace Go.Proofs.YthokgjkgfolojaaDoor
open Go.ChangeShapes Go.WideShapes Go.ChangeAt Go.RowKit
set_option linter.unusedVariables false
set_option maxRecDepth 100000

set_option maxHeartbeats 16000000 in
theorem cellsParts_false (w : World) (ht : Tab w) (ao : Option Addr) (len cap : Nat) (Q : List Opq) (hQ : IsOps w ao len cap Q) (at8 k : Int) (h8 : -128 ≤ at8 ∧ at8 ≤ 127) (hk : at8.tmod 32 = k) :
    Calls Tryd.prog 5 #[.slice ao len cap, .int .i8 at8, .bool false] w fun e w' => e = .returned (.bool true) ∧ Fr Nobody w w' := by
  have hlen : len ≤ 9223372036854775807 := by have h1 := hQ.2.1; have h2 := hQ.2.2.1; unfold maxLen at h2; omega
  have hk1 : -32 < k ∧ k < 32 := by
    have a := Int.tmod_lt_of_pos at8 (show (0 : Int) < 32 by decide)
    have b : -32 < at8.tmod 32 := by
      by_cases h0 : 0 ≤ at8
      · have := Int.tmod_nonneg 32 h0
        omega
      · have e : at8.tmod 32 = -((-at8).tmod 32) := by rw [Int.neg_tmod]; omega
        have := Int.tmod_lt_of_pos (-at8) (show (0 : Int) < 32 by decide)
        omega
    omega
  obtain ⟨hk1, hk2⟩ := hk1
  obtain ⟨h81, h82⟩ := h8
  have HT : Hid (Tab w) := ht
  have HQ : Hid (IsOps w ao len cap Q) := hQ
  have HA : Hid (Calls _ _ _ _ _) := awake16 w ht
  have HN : Hid (∀ w', Fr Nobody w w' → Calls Tryd.prog 11 #[] w' fun e w'' => ∃ g, e = .returned (.pointer (some ⟨g, 0, none⟩)) ∧ Own w w'' (Grid g [] 1000 :: [])) := fun w' hf => gnew w w' [] (Own.of_fr hf) 1000
  clear ht hQ
  go_enter Tryd.func5, Tryd.ntmps5
  go_wp2_with fail
  refine HA.out.mono ?_
  rintro e v1 ⟨rfl, hf⟩
  have H0 : Hid (Calls _ _ _ _ _) := HN.out v1 hf
  clear hf HA HN
  go_wp2_with fail
  refine H0.out.mono ?_
  rintro e v2 ⟨g, rfl, h1⟩
  have H1 : Hid (Own w v2 (Grid g [] 1000 :: [])) := h1
  clear h1 H0
  go_wp2
  go_loopw [21] (fun vi wr => ∃ j : Nat, j ≤ len ∧ vi = .int .i64 (j : Int) ∧ Own w wr (Grid g (plays (Q.take (min j 80))) 1000 :: []) ∧ GAll (plays (Q.take (min j 80))) 80) (fun vi _ => len - (iOf vi).toNat)
  case atStart => exact ⟨0, Nat.zero_le _, rfl, H1.out, GAll.nil.mono (by decide)⟩
  case round =>
    obtain ⟨j, hj, rfl, hO, hGA⟩ := hrel
    by_cases hlt : j < len
    · have hlt' : (j : Int) < (len : Int) := by omega
      obtain ⟨gs, os, q, rfl, hq, d1, d2, d3, d4, c0, c1, c2, c3⟩ := op_cells HQ.out hO.fr hlt
      by_cases hj80 : j < 80
      · have hj80' : (j : Int) < 80 := by omega
        have hst := take_step hq hj80
        have HST : Hid (plays (Q.take (min (j + 1) 80)) = pstep (plays (Q.take (min j 80))) q) := hst
        obtain ⟨L, hL⟩ : ∃ L, L = plays (Q.take (min j 80)) := ⟨_, rfl⟩
        rw [← hL] at hO hGA HST
        have hGL : GAll L j := by
          rw [hL]
          exact plays_all HQ.out (by omega)
        have HGN : Hid (GAll (pstep L q) 80) := (hGL.put q d2).mono (by omega)
        have hA := hO.allocC #[.int .u8 (q.d : Int), .int .u32 (q.i : Int), .int .i32 q.x, .int .i32 q.y] 32
        have HP : Hid (Calls _ _ _ _ _) := gput_any w _ _ g 1000 L hA.two hGA.ok HT.out q.i d2 q.x q.y (by have := hGA.len; omega) (by unfold maxLen; decide)
        obtain ⟨qd, hqd⟩ : ∃ qd : Nat, qd = q.d := ⟨_, rfl⟩
        obtain ⟨qi, hqi⟩ : ∃ qi : Nat, qi = q.i := ⟨_, rfl⟩
        obtain ⟨qx, hqx⟩ : ∃ qx : Int, qx = q.x := ⟨_, rfl⟩
        obtain ⟨qy, hqy⟩ : ∃ qy : Int, qy = q.y := ⟨_, rfl⟩
        obtain ⟨pe, hpe⟩ : ∃ pe, pe = putE q.i q.x q.y := ⟨_, rfl⟩
        have HPS : Hid (pstep L q = if pe = 0 then putL L (q.i, q.x, q.y) else L) := by show _ = _; rw [hpe]; rfl
        rw [← hpe] at HP
        rw [← HPS.out] at HP
        rw [← hqd] at c0 HP
        rw [← hqi] at c1 HP
        rw [← hqx] at c2 HP
        rw [← hqy] at c3 HP
        clear hA hO hst hq hL hGL hpe hGA d1 d2 d3 d4 HPS hqd hqi hqx hqy
        go_wp2_with fail
        refine HP.out.mono ?_
        rintro e w2 ⟨rfl, hO2⟩
        have HO2 : Hid (Own w w2 (Grid g (pstep L q) 1000 :: [])) := hO2.two.tail
        clear hO2 HP c0 c1 c2 c3
        go_wp2
        go_roundw
        case rel => exact ⟨j + 1, by omega, by go_num, by rw [HST.out]; exact HO2.out, by rw [HST.out]; exact HGN.out⟩
        case measure => simp [iOf]; omega
      · have hj80' : ¬ (j : Int) < 80 := by omega
        have HST : Hid (plays (Q.take (min (j + 1) 80)) = plays (Q.take (min j 80))) := take_stay hj80
        have hA := hO.alloc (.cells #[.int .u8 (q.d : Int), .int .u32 (q.i : Int), .int .i32 q.x, .int .i32 q.y] 32)
        have HA : Hid (Own w _ _) := hA
        have HGA : Hid (GAll _ 80) := hGA
        generalize q.d = qd at *
        generalize q.i = qi at *
        generalize q.x = qx at *
        generalize q.y = qy at *
        clear hA hO hGA hq d1 d2 d3 d4
        go_wp2
        go_roundw
        case rel => exact ⟨j + 1, by omega, by go_num, by rw [HST.out]; exact HA.out, by rw [HST.out]; exact HGA.out⟩
        case measure => simp [iOf]; omega
    · have hlt' : ¬ (j : Int) < (len : Int) := by omega
      obtain ⟨L, hL⟩ : ∃ L, L = plays (Q.take (min j 80)) := ⟨_, rfl⟩
      rw [← hL] at hO hGA
      clear hL H1 hj hlt
      have HB1 : Hid (Calls _ _ _ _ _) := gbox w wr [] g 1000 L hO hGA.ok hGA.inn (by have := hGA.len; omega) (-32) (-32) k 31
      have HB2 : Hid (∀ (W : World) (l : List Thing), Own w W (Grid g L 1000 :: l) → Calls Tryd.prog 23 #[.pointer (some ⟨g, 0, none⟩), .int .i64 (k + 1), .int .i64 (-32), .int .i64 31, .int .i64 31] W fun e w' => ∃ (ao : Option Addr) (cap : Nat), e = .returned (.slice ao (boxL L (k + 1) (-32) 31 31).length cap) ∧ Own w w' (Row 30 1 (.slice ao (boxL L (k + 1) (-32) 31 31).length cap) (boxL L (k + 1) (-32) 31 31).length (irow .u32 (boxL L (k + 1) (-32) 31 31)) :: Grid g L 1000 :: l)) := fun W l h => gbox w W l g 1000 L h hGA.ok hGA.inn (by have := hGA.len; omega) (k + 1) (-32) 31 31
      obtain ⟨A0, hA0⟩ : ∃ A0, A0 = boxL L (-32) (-32) k 31 := ⟨_, rfl⟩
      obtain ⟨B0, hB0⟩ : ∃ B0, B0 = boxL L (k + 1) (-32) 31 31 := ⟨_, rfl⟩
      rw [← hA0] at HB1
      rw [← hB0] at HB2
      have hpm := (box_parts hGA k).1
      have hpd := (box_parts hGA k).2
      rw [← hA0, ← hB0] at hpm hpd
      have hAi : A0.Pairwise (· < ·) := by rw [hA0]; exact box_inc hGA.ok.1 _ _ _ _
      have hBi : B0.Pairwise (· < ·) := by rw [hB0]; exact box_inc hGA.ok.1 _ _ _ _
      clear hO hA0 hB0
      go_wp2_with fail
      refine HB1.out.mono ?_
      rintro e u1 ⟨ao1, cap1, rfl, h1⟩
      have HC2 : Hid (Calls _ _ _ _ _) := HB2.out u1 _ h1.two
      clear h1 HB1 HB2
      go_wp2_with fail
      refine HC2.out.mono ?_
      rintro e u2 ⟨ao2, cap2, rfl, h2⟩
      have hOb := h2.two
      clear h2 HC2
      obtain ⟨AL, hAL⟩ : ∃ AL, AL = boxL L (-32) (-32) 31 31 := ⟨_, rfl⟩
      have HSUM : Hid (A0.length + B0.length = AL.length) := by rw [hAL]; exact parts_len ((box_inc hGA.ok.1 _ _ _ _).imp Nat.ne_of_lt) (hAi.imp Nat.ne_of_lt) (hBi.imp Nat.ne_of_lt) hpm hpd
      have HLN : Hid (AL.length = L.length) := by show _ = _; rw [hAL, box_all hGA, List.length_map]
      have HBX : Hid (Calls _ _ _ _ _) := gbox w u2 _ g 1000 L hOb hGA.ok hGA.inn (by have := hGA.len; omega) (-32) (-32) 31 31
      rw [← hAL] at HBX
      have HLE : Hid (∀ (W : World) (l : List Thing), Own w W (Grid g L 1000 :: l) → Calls Tryd.prog 17 #[.pointer (some ⟨g, 0, none⟩)] W fun e w' => e = .returned (.int .i64 (L.length : Int)) ∧ w' = W) := fun W l h => glen w W l g 1000 L h
      have hALi : AL.Pairwise (· < ·) := by rw [hAL]; exact box_inc hGA.ok.1 _ _ _ _
      have HPM : Hid (∀ x, x ∈ AL ↔ (x ∈ A0 ∨ x ∈ B0)) := by rw [hAL]; exact hpm
      have HPD : Hid (∀ x, x ∈ A0 → x ∉ B0) := hpd
      have HAI : Hid (A0.Pairwise (· < ·) ∧ B0.Pairwise (· < ·) ∧ AL.Pairwise (· < ·)) := ⟨hAi, hBi, hALi⟩
      have hLl := hGA.len
      rw [← HLN.out] at hLl HLE
      clear hGA hpm hpd hAi hBi hALi hAL hOb 
      generalize hna : A0.length = na at *
      generalize hnb : B0.length = nb at *
      generalize hnl : AL.length = nl at *
      have HNA : Hid (A0.length = na) := hna
      have HNB : Hid (B0.length = nb) := hnb
      have HNL : Hid (AL.length = nl) := hnl
      have hsum : na + nb = nl := HSUM.out
      have hsum' : (na : Int) + (nb : Int) = (nl : Int) := by omega
      clear hna hnb hnl hsum HSUM HLN
      go_wp2_with fail
      refine HBX.out.mono ?_
      rintro e u5 ⟨ao3, cap3, rfl, h5⟩
      have h5a := h5
      rw [← HNL.out] at h5a
      have HN3 : Hid (NumsC u5 ao3 cap3 AL) := Own.numsC h5a
      have h5b := h5.four
      rw [← HNA.out] at h5b
      have HN1 : Hid (NumsC u5 ao1 cap1 A0) := Own.numsC h5b
      have h5c := h5.three
      rw [← HNB.out] at h5c
      have HN2 : Hid (NumsC u5 ao2 cap2 B0) := Own.numsC h5c
      have HF5 : Hid (Fr Nobody w u5) := h5.fr
      have HL5 : Hid (Calls _ _ _ _ _) := HLE.out u5 _ h5.two
      clear h5 h5a h5b h5c HBX HLE
      go_wp2_with fail
      refine HL5.out.mono ?_
      rintro e u6 ⟨rfl, rfl⟩
      clear HL5
      go_wp2
      go_loopw [74, 11, 12] (fun vi va vb wr => ∃ (j : Nat) (A B : List Nat) (a1 : Option Addr) (c1 : Nat) (a2 : Option Addr) (c2 : Nat), j ≤ nl ∧ vi = .int .i64 (j : Int) ∧ va = .slice a1 A.length c1 ∧ vb = .slice a2 B.length c2 ∧ wr = u6 ∧ NumsC u6 a1 c1 A ∧ NumsC u6 a2 c2 B ∧ A.Pairwise (· < ·) ∧ B.Pairwise (· < ·) ∧ (∀ x, x ∈ AL.drop j ↔ (x ∈ A ∨ x ∈ B)) ∧ (∀ x, x ∈ A → x ∉ B)) (fun vi _ _ _ => nl - (iOf vi).toNat)
      case atStart => exact ⟨0, A0, B0, ao1, cap1, ao2, cap2, Nat.zero_le _, rfl, by rw [HNA.out], by rw [HNB.out], rfl, HN1.out, HN2.out, HAI.out.1, HAI.out.2.1, HPM.out, HPD.out⟩
      case round =>
        obtain ⟨j, A, B, a1, c1, a2, c2, hj, rfl, rfl, rfl, rfl, hA, hB, hAi, hBi, hm, hd⟩ := hrel
        by_cases hlt : j < nl
        · have hlt' : (j : Int) < (nl : Int) := by omega
          obtain ⟨t, ht⟩ : ∃ t, AL[j]? = some t := ⟨_, List.getElem?_eq_getElem (by rw [HNL.out]; exact hlt)⟩
          have hdr : AL.drop j = t :: AL.drop (j + 1) := by
            obtain ⟨hjl, he⟩ := List.getElem?_eq_some_iff.1 ht
            rw [List.drop_eq_getElem_cons hjl, he]
          have hTi : (t :: AL.drop (j + 1)).Pairwise (· < ·) := by rw [← hdr]; exact HAI.out.2.2.drop
          rw [hdr] at hm
          obtain ⟨g3, o3, rfl, c0⟩ : ∃ g o, ao3 = some ⟨g, o, none⟩ ∧ wr.cell? ⟨g, o + j, none⟩ = some (.int .u32 (t : Int)) := by
            rcases HN3.out.2.2 with h | ⟨g, o, ha, hc⟩
            · rw [h] at ht; simp at ht
            · exact ⟨g, o, ha, hc j t ht⟩
          rcases parts_step hTi hAi hBi hm hd with ⟨A', rfl, hm'⟩ | ⟨hne, B', rfl, hm'⟩
          · obtain ⟨ga, oa, rfl, ca, hca⟩ := hA.head
            have HAT : Hid (NumsC wr (if c1 = 1 then some ⟨ga, oa, none⟩ else some ⟨ga, oa + 1, none⟩) (c1 - 1) A') := hA.tl
            have HBT : Hid (NumsC wr a2 c2 B) := hB
            have HM : Hid (A'.Pairwise (· < ·) ∧ B.Pairwise (· < ·) ∧ (∀ x, x ∈ AL.drop (j + 1) ↔ (x ∈ A' ∨ x ∈ B)) ∧ (∀ x, x ∈ A' → x ∉ B)) := ⟨(List.pairwise_cons.1 hAi).2, hBi, hm', fun x hx => hd x (List.mem_cons_of_mem _ hx)⟩
            have hcm : c1 ≤ maxLen := hA.2.1
            clear hA hB hAi hBi hm hd hm' hTi hdr ht
            generalize hla : A'.length = la at *
            generalize hlb : B.length = lb at *
            have HLA : Hid (A'.length = la) := hla
            have HLB : Hid (B.length = lb) := hlb
            have hl1 : (t :: A').length = la + 1 := by rw [List.length_cons, hla]
            rw [hl1]
            clear hla hlb hl1
            go_wp2
            go_roundw
            case rel => exact ⟨j + 1, A', B, _, _, _, _, by omega, by go_num, by rw [HLA.out], by rw [HLB.out], trivial, HAT.out, HBT.out, HM.out⟩
            case measure => simp [iOf]; omega
          · obtain ⟨gb, ob, rfl, cb, hcb⟩ := hB.head
            have HBT : Hid (NumsC wr (if c2 = 1 then some ⟨gb, ob, none⟩ else some ⟨gb, ob + 1, none⟩) (c2 - 1) B') := hB.tl
            have HAT : Hid (NumsC wr a1 c1 A) := hA
            have HM : Hid (A.Pairwise (· < ·) ∧ B'.Pairwise (· < ·) ∧ (∀ x, x ∈ AL.drop (j + 1) ↔ (x ∈ A ∨ x ∈ B')) ∧ (∀ x, x ∈ A → x ∉ B')) := ⟨hAi, (List.pairwise_cons.1 hBi).2, hm', fun x hx hy => hd x hx (List.mem_cons_of_mem _ hy)⟩
            have hcm : c2 ≤ maxLen := hB.2.1
            cases A with
            | nil =>
              clear hA hB hAi hBi hm hd hm' hTi hdr ht hne
              generalize hlb : B'.length = lb at *
              have HLB : Hid (B'.length = lb) := hlb
              have hl1 : (t :: B').length = lb + 1 := by rw [List.length_cons, hlb]
              rw [hl1, List.length_nil]
              clear hlb hl1
              go_wp2
              go_roundw
              case rel => exact ⟨j + 1, [], B', _, _, _, _, by omega, by go_num, rfl, by rw [HLB.out], trivial, HAT.out, HBT.out, HM.out⟩
              case measure => simp [iOf]; omega
            | cons a0 A1 =>
              obtain ⟨ga, oa, rfl, ca, hca⟩ := hA.head
              have hat : ((a0 : Int) == (t : Int)) = false := by
                rw [beq_eq_false_iff_ne]
                intro e
                exact hne A1 (by congr 1; omega)
              clear hA hB hAi hBi hm hd hm' hTi hdr ht hne
              generalize hla : A1.length = la at *
              generalize hlb : B'.length = lb at *
              have HLA : Hid (A1.length = la) := hla
              have HLB : Hid (B'.length = lb) := hlb
              have hl1 : (t :: B').length = lb + 1 := by rw [List.length_cons, hlb]
              have hl2 : (a0 :: A1).length = la + 1 := by rw [List.length_cons, hla]
              rw [hl1, hl2]
              clear hla hlb hl1 hl2
              go_wp2
              go_roundw
              case rel => exact ⟨j + 1, a0 :: A1, B', _, _, _, _, by omega, by go_num, by rw [List.length_cons, HLA.out], by rw [HLB.out], trivial, HAT.out, HBT.out, HM.out⟩
              case measure => simp [iOf]; omega
        · have hlt' : ¬ (j : Int) < (nl : Int) := by omega
          clear hA hB hAi hBi hm hd
          generalize A.length = la at *
          generalize B.length = lb at *
          go_wp2
          go_ret
          exact ⟨rfl, HF5.out⟩
set_option maxHeartbeats 16000000 in
theorem cellsParts_true (w : World) (ht : Tab w) (ao : Option Addr) (len cap : Nat) (Q : List Opq) (hQ : IsOps w ao len cap Q) (at8 k : Int) (h8 : -128 ≤ at8 ∧ at8 ≤ 127) (hk : at8.tmod 32 = k) :
    Calls Tryd.prog 5 #[.slice ao len cap, .int .i8 at8, .bool true] w fun e w' => e = .returned (.bool true) ∧ Fr Nobody w w' := by
  have hlen : len ≤ 9223372036854775807 := by have h1 := hQ.2.1; have h2 := hQ.2.2.1; unfold maxLen at h2; omega
  have hk1 : -32 < k ∧ k < 32 := by
    have a := Int.tmod_lt_of_pos at8 (show (0 : Int) < 32 by decide)
    have b : -32 < at8.tmod 32 := by
      by_cases h0 : 0 ≤ at8
      · have := Int.tmod_nonneg 32 h0
        omega
      · have e : at8.tmod 32 = -((-at8).tmod 32) := by rw [Int.neg_tmod]; omega
        have := Int.tmod_lt_of_pos (-at8) (show (0 : Int) < 32 by decide)
        omega
    omega
  obtain ⟨hk1, hk2⟩ := hk1
  obtain ⟨h81, h82⟩ := h8
  have HT : Hid (Tab w) := ht
  have HQ : Hid (IsOps w ao len cap Q) := hQ
  have HA : Hid (Calls _ _ _ _ _) := awake16 w ht
  have HN : Hid (∀ w', Fr Nobody w w' → Calls Tryd.prog 11 #[] w' fun e w'' => ∃ g, e = .returned (.pointer (some ⟨g, 0, none⟩)) ∧ Own w w'' (Grid g [] 1000 :: [])) := fun w' hf => gnew w w' [] (Own.of_fr hf) 1000
  clear ht hQ
  go_enter Tryd.func5, Tryd.ntmps5
  go_wp2_with fail
  refine HA.out.mono ?_
  rintro e v1 ⟨rfl, hf⟩
  have H0 : Hid (Calls _ _ _ _ _) := HN.out v1 hf
  clear hf HA HN
  go_wp2_with fail
  refine H0.out.mono ?_
  rintro e v2 ⟨g, rfl, h1⟩
  have H1 : Hid (Own w v2 (Grid g [] 1000 :: [])) := h1
  clear h1 H0
  go_wp2
  go_loopw [21] (fun vi wr => ∃ j : Nat, j ≤ len ∧ vi = .int .i64 (j : Int) ∧ Own w wr (Grid g (plays (Q.take (min j 80))) 1000 :: []) ∧ GAll (plays (Q.take (min j 80))) 80) (fun vi _ => len - (iOf vi).toNat)
  case atStart => exact ⟨0, Nat.zero_le _, rfl, H1.out, GAll.nil.mono (by decide)⟩
  case round =>
    obtain ⟨j, hj, rfl, hO, hGA⟩ := hrel
    by_cases hlt : j < len
    · have hlt' : (j : Int) < (len : Int) := by omega
      obtain ⟨gs, os, q, rfl, hq, d1, d2, d3, d4, c0, c1, c2, c3⟩ := op_cells HQ.out hO.fr hlt
      by_cases hj80 : j < 80
      · have hj80' : (j : Int) < 80 := by omega
        have hst := take_step hq hj80
        have HST : Hid (plays (Q.take (min (j + 1) 80)) = pstep (plays (Q.take (min j 80))) q) := hst
        obtain ⟨L, hL⟩ : ∃ L, L = plays (Q.take (min j 80)) := ⟨_, rfl⟩
        rw [← hL] at hO hGA HST
        have hGL : GAll L j := by
          rw [hL]
          exact plays_all HQ.out (by omega)
        have HGN : Hid (GAll (pstep L q) 80) := (hGL.put q d2).mono (by omega)
        have hA := hO.allocC #[.int .u8 (q.d : Int), .int .u32 (q.i : Int), .int .i32 q.x, .int .i32 q.y] 32
        have HP : Hid (Calls _ _ _ _ _) := gput_any w _ _ g 1000 L hA.two hGA.ok HT.out q.i d2 q.x q.y (by have := hGA.len; omega) (by unfold maxLen; decide)
        obtain ⟨qd, hqd⟩ : ∃ qd : Nat, qd = q.d := ⟨_, rfl⟩
        obtain ⟨qi, hqi⟩ : ∃ qi : Nat, qi = q.i := ⟨_, rfl⟩
        obtain ⟨qx, hqx⟩ : ∃ qx : Int, qx = q.x := ⟨_, rfl⟩
        obtain ⟨qy, hqy⟩ : ∃ qy : Int, qy = q.y := ⟨_, rfl⟩
        obtain ⟨pe, hpe⟩ : ∃ pe, pe = putE q.i q.x q.y := ⟨_, rfl⟩
        have HPS : Hid (pstep L q = if pe = 0 then putL L (q.i, q.x, q.y) else L) := by show _ = _; rw [hpe]; rfl
        rw [← hpe] at HP
        rw [← HPS.out] at HP
        rw [← hqd] at c0 HP
        rw [← hqi] at c1 HP
        rw [← hqx] at c2 HP
        rw [← hqy] at c3 HP
        clear hA hO hst hq hL hGL hpe hGA d1 d2 d3 d4 HPS hqd hqi hqx hqy
        go_wp2_with fail
        refine HP.out.mono ?_
        rintro e w2 ⟨rfl, hO2⟩
        have HO2 : Hid (Own w w2 (Grid g (pstep L q) 1000 :: [])) := hO2.two.tail
        clear hO2 HP c0 c1 c2 c3
        go_wp2
        go_roundw
        case rel => exact ⟨j + 1, by omega, by go_num, by rw [HST.out]; exact HO2.out, by rw [HST.out]; exact HGN.out⟩
        case measure => simp [iOf]; omega
      · have hj80' : ¬ (j : Int) < 80 := by omega
        have HST : Hid (plays (Q.take (min (j + 1) 80)) = plays (Q.take (min j 80))) := take_stay hj80
        have hA := hO.alloc (.cells #[.int .u8 (q.d : Int), .int .u32 (q.i : Int), .int .i32 q.x, .int .i32 q.y] 32)
        have HA : Hid (Own w _ _) := hA
        have HGA : Hid (GAll _ 80) := hGA
        generalize q.d = qd at *
        generalize q.i = qi at *
        generalize q.x = qx at *
        generalize q.y = qy at *
        clear hA hO hGA hq d1 d2 d3 d4
        go_wp2
        go_roundw
        case rel => exact ⟨j + 1, by omega, by go_num, by rw [HST.out]; exact HA.out, by rw [HST.out]; exact HGA.out⟩
        case measure => simp [iOf]; omega
    · have hlt' : ¬ (j : Int) < (len : Int) := by omega
      obtain ⟨L, hL⟩ : ∃ L, L = plays (Q.take (min j 80)) := ⟨_, rfl⟩
      rw [← hL] at hO hGA
      clear hL H1 hj hlt
      have HB1 : Hid (Calls _ _ _ _ _) := gbox w wr [] g 1000 L hO hGA.ok hGA.inn (by have := hGA.len; omega) (-32) (-32) k 31
      have HB2 : Hid (∀ (W : World) (l : List Thing), Own w W (Grid g L 1000 :: l) → Calls Tryd.prog 23 #[.pointer (some ⟨g, 0, none⟩), .int .i64 (k + 1), .int .i64 (-32), .int .i64 31, .int .i64 31] W fun e w' => ∃ (ao : Option Addr) (cap : Nat), e = .returned (.slice ao (boxL L (k + 1) (-32) 31 31).length cap) ∧ Own w w' (Row 30 1 (.slice ao (boxL L (k + 1) (-32) 31 31).length cap) (boxL L (k + 1) (-32) 31 31).length (irow .u32 (boxL L (k + 1) (-32) 31 31)) :: Grid g L 1000 :: l)) := fun W l h => gbox w W l g 1000 L h hGA.ok hGA.inn (by have := hGA.len; omega) (k + 1) (-32) 31 31
      obtain ⟨A9, hA9⟩ : ∃ A9, A9 = boxL L (-32) (-32) k 31 := ⟨_, rfl⟩
      obtain ⟨B9, hB9⟩ : ∃ B9, B9 = boxL L (k + 1) (-32) 31 31 := ⟨_, rfl⟩
      rw [← hA9] at HB1
      rw [← hB9] at HB2
      have HB3 : Hid (∀ (W : World) (l : List Thing), Own w W (Grid g L 1000 :: l) → Calls Tryd.prog 23 #[.pointer (some ⟨g, 0, none⟩), .int .i64 (-32), .int .i64 (-32), .int .i64 31, .int .i64 k] W fun e w' => ∃ (ao : Option Addr) (cap : Nat), e = .returned (.slice ao (boxL L (-32) (-32) 31 k).length cap) ∧ Own w w' (Row 30 1 (.slice ao (boxL L (-32) (-32) 31 k).length cap) (boxL L (-32) (-32) 31 k).length (irow .u32 (boxL L (-32) (-32) 31 k)) :: Grid g L 1000 :: l)) := fun W l h => gbox w W l g 1000 L h hGA.ok hGA.inn (by have := hGA.len; omega) (-32) (-32) 31 k
      have HB4 : Hid (∀ (W : World) (l : List Thing), Own w W (Grid g L 1000 :: l) → Calls Tryd.prog 23 #[.pointer (some ⟨g, 0, none⟩), .int .i64 (-32), .int .i64 (k + 1), .int .i64 31, .int .i64 31] W fun e w' => ∃ (ao : Option Addr) (cap : Nat), e = .returned (.slice ao (boxL L (-32) (k + 1) 31 31).length cap) ∧ Own w w' (Row 30 1 (.slice ao (boxL L (-32) (k + 1) 31 31).length cap) (boxL L (-32) (k + 1) 31 31).length (irow .u32 (boxL L (-32) (k + 1) 31 31)) :: Grid g L 1000 :: l)) := fun W l h => gbox w W l g 1000 L h hGA.ok hGA.inn (by have := hGA.len; omega) (-32) (k + 1) 31 31
      obtain ⟨n1, hn1⟩ : ∃ n1, n1 = A9.length := ⟨_, rfl⟩
      obtain ⟨n2, hn2⟩ : ∃ n2, n2 = B9.length := ⟨_, rfl⟩
      rw [← hn1] at HB1
      rw [← hn2] at HB2
      clear hO hA9 hB9 hn1 hn2
      go_wp2_with fail
      refine HB1.out.mono ?_
      rintro e u1 ⟨ap1, cp1, rfl, h1⟩
      have HC2 : Hid (Calls _ _ _ _ _) := HB2.out u1 _ h1.two
      clear h1 HB1 HB2
      go_wp2_with fail
      refine HC2.out.mono ?_
      rintro e u2 ⟨ap2, cp2, rfl, h2⟩
      have HC3 : Hid (Calls _ _ _ _ _) := HB3.out u2 _ h2.two
      clear h2 HC2 HB3
      obtain ⟨A0, hA0⟩ : ∃ A0, A0 = boxL L (-32) (-32) 31 k := ⟨_, rfl⟩
      obtain ⟨B0, hB0⟩ : ∃ B0, B0 = boxL L (-32) (k + 1) 31 31 := ⟨_, rfl⟩
      rw [← hA0] at HC3
      rw [← hB0] at HB4
      have hpm := (box_parts2 hGA k).1
      have hpd := (box_parts2 hGA k).2
      rw [← hA0, ← hB0] at hpm hpd
      have hAi : A0.Pairwise (· < ·) := by rw [hA0]; exact box_inc hGA.ok.1 _ _ _ _
      have hBi : B0.Pairwise (· < ·) := by rw [hB0]; exact box_inc hGA.ok.1 _ _ _ _
      clear hA0 hB0
      go_wp2_with fail
      refine HC3.out.mono ?_
      rintro e u3 ⟨ao1, cap1, rfl, h3⟩
      have HC4 : Hid (Calls _ _ _ _ _) := HB4.out u3 _ h3.two
      clear h3 HC3 HB4
      go_wp2_with fail
      refine HC4.out.mono ?_
      rintro e u4 ⟨ao2, cap2, rfl, h4⟩
      have hOb := h4.two
      clear h4 HC4
      obtain ⟨AL, hAL⟩ : ∃ AL, AL = boxL L (-32) (-32) 31 31 := ⟨_, rfl⟩
      have HSUM : Hid (A0.length + B0.length = AL.length) := by rw [hAL]; exact parts_len ((box_inc hGA.ok.1 _ _ _ _).imp Nat.ne_of_lt) (hAi.imp Nat.ne_of_lt) (hBi.imp Nat.ne_of_lt) hpm hpd
      have HLN : Hid (AL.length = L.length) := by show _ = _; rw [hAL, box_all hGA, List.length_map]
      have HBX : Hid (Calls _ _ _ _ _) := gbox w u4 _ g 1000 L hOb hGA.ok hGA.inn (by have := hGA.len; omega) (-32) (-32) 31 31
      rw [← hAL] at HBX
      have HLE : Hid (∀ (W : World) (l : List Thing), Own w W (Grid g L 1000 :: l) → Calls Tryd.prog 17 #[.pointer (some ⟨g, 0, none⟩)] W fun e w' => e = .returned (.int .i64 (L.length : Int)) ∧ w' = W) := fun W l h => glen w W l g 1000 L h
      have hALi : AL.Pairwise (· < ·) := by rw [hAL]; exact box_inc hGA.ok.1 _ _ _ _
      have HPM : Hid (∀ x, x ∈ AL ↔ (x ∈ A0 ∨ x ∈ B0)) := by rw [hAL]; exact hpm
      have HPD : Hid (∀ x, x ∈ A0 → x ∉ B0) := hpd
      have HAI : Hid (A0.Pairwise (· < ·) ∧ B0.Pairwise (· < ·) ∧ AL.Pairwise (· < ·)) := ⟨hAi, hBi, hALi⟩
      have hLl := hGA.len
      rw [← HLN.out] at hLl HLE
      clear hGA hpm hpd hAi hBi hALi hAL hOb 
      generalize hna : A0.length = na at *
      generalize hnb : B0.length = nb at *
      generalize hnl : AL.length = nl at *
      have HNA : Hid (A0.length = na) := hna
      have HNB : Hid (B0.length = nb) := hnb
      have HNL : Hid (AL.length = nl) := hnl
      have hsum : na + nb = nl := HSUM.out
      have hsum' : (na : Int) + (nb : Int) = (nl : Int) := by omega
      clear hna hnb hnl hsum HSUM HLN
      go_wp2_with fail
      refine HBX.out.mono ?_
      rintro e u5 ⟨ao3, cap3, rfl, h5⟩
      have h5a := h5
      rw [← HNL.out] at h5a
      have HN3 : Hid (NumsC u5 ao3 cap3 AL) := Own.numsC h5a
      have h5b := h5.four
      rw [← HNA.out] at h5b
      have HN1 : Hid (NumsC u5 ao1 cap1 A0) := Own.numsC h5b
      have h5c := h5.three
      rw [← HNB.out] at h5c
      have HN2 : Hid (NumsC u5 ao2 cap2 B0) := Own.numsC h5c
      have HF5 : Hid (Fr Nobody w u5) := h5.fr
      have HL5 : Hid (Calls _ _ _ _ _) := HLE.out u5 _ h5.two
      clear h5 h5a h5b h5c HBX HLE
      go_wp2_with fail
      refine HL5.out.mono ?_
      rintro e u6 ⟨rfl, rfl⟩
      clear HL5
      go_wp2
      go_loopw [74, 11, 12] (fun vi va vb wr => ∃ (j : Nat) (A B : List Nat) (a1 : Option Addr) (c1 : Nat) (a2 : Option Addr) (c2 : Nat), j ≤ nl ∧ vi = .int .i64 (j : Int) ∧ va = .slice a1 A.length c1 ∧ vb = .slice a2 B.length c2 ∧ wr = u6 ∧ NumsC u6 a1 c1 A ∧ NumsC u6 a2 c2 B ∧ A.Pairwise (· < ·) ∧ B.Pairwise (· < ·) ∧ (∀ x, x ∈ AL.drop j ↔ (x ∈ A ∨ x ∈ B)) ∧ (∀ x, x ∈ A → x ∉ B)) (fun vi _ _ _ => nl - (iOf vi).toNat)
      case atStart => exact ⟨0, A0, B0, ao1, cap1, ao2, cap2, Nat.zero_le _, rfl, by rw [HNA.out], by rw [HNB.out], rfl, HN1.out, HN2.out, HAI.out.1, HAI.out.2.1, HPM.out, HPD.out⟩
      case round =>
        obtain ⟨j, A, B, a1, c1, a2, c2, hj, rfl, rfl, rfl, rfl, hA, hB, hAi, hBi, hm, hd⟩ := hrel
        by_cases hlt : j < nl
        · have hlt' : (j : Int) < (nl : Int) := by omega
          obtain ⟨t, ht⟩ : ∃ t, AL[j]? = some t := ⟨_, List.getElem?_eq_getElem (by rw [HNL.out]; exact hlt)⟩
          have hdr : AL.drop j = t :: AL.drop (j + 1) := by
            obtain ⟨hjl, he⟩ := List.getElem?_eq_some_iff.1 ht
            rw [List.drop_eq_getElem_cons hjl, he]
          have hTi : (t :: AL.drop (j + 1)).Pairwise (· < ·) := by rw [← hdr]; exact HAI.out.2.2.drop
          rw [hdr] at hm
          obtain ⟨g3, o3, rfl, c0⟩ : ∃ g o, ao3 = some ⟨g, o, none⟩ ∧ wr.cell? ⟨g, o + j, none⟩ = some (.int .u32 (t : Int)) := by
            rcases HN3.out.2.2 with h | ⟨g, o, ha, hc⟩
            · rw [h] at ht; simp at ht
            · exact ⟨g, o, ha, hc j t ht⟩
          rcases parts_step hTi hAi hBi hm hd with ⟨A', rfl, hm'⟩ | ⟨hne, B', rfl, hm'⟩
          · obtain ⟨ga, oa, rfl, ca, hca⟩ := hA.head
            have HAT : Hid (NumsC wr (if c1 = 1 then some ⟨ga, oa, none⟩ else some ⟨ga, oa + 1, none⟩) (c1 - 1) A') := hA.tl
            have HBT : Hid (NumsC wr a2 c2 B) := hB
            have HM : Hid (A'.Pairwise (· < ·) ∧ B.Pairwise (· < ·) ∧ (∀ x, x ∈ AL.drop (j + 1) ↔ (x ∈ A' ∨ x ∈ B)) ∧ (∀ x, x ∈ A' → x ∉ B)) := ⟨(List.pairwise_cons.1 hAi).2, hBi, hm', fun x hx => hd x (List.mem_cons_of_mem _ hx)⟩
            have hcm : c1 ≤ maxLen := hA.2.1
            clear hA hB hAi hBi hm hd hm' hTi hdr ht
            generalize hla : A'.length = la at *
            generalize hlb : B.length = lb at *
            have HLA : Hid (A'.length = la) := hla
            have HLB : Hid (B.length = lb) := hlb
            have hl1 : (t :: A').length = la + 1 := by rw [List.length_cons, hla]
            rw [hl1]
            clear hla hlb hl1
            go_wp2
            go_roundw
            case rel => exact ⟨j + 1, A', B, _, _, _, _, by omega, by go_num, by rw [HLA.out], by rw [HLB.out], trivial, HAT.out, HBT.out, HM.out⟩
            case measure => simp [iOf]; omega
          · obtain ⟨gb, ob, rfl, cb, hcb⟩ := hB.head
            have HBT : Hid (NumsC wr (if c2 = 1 then some ⟨gb, ob, none⟩ else some ⟨gb, ob + 1, none⟩) (c2 - 1) B') := hB.tl
            have HAT : Hid (NumsC wr a1 c1 A) := hA
            have HM : Hid (A.Pairwise (· < ·) ∧ B'.Pairwise (· < ·) ∧ (∀ x, x ∈ AL.drop (j + 1) ↔ (x ∈ A ∨ x ∈ B')) ∧ (∀ x, x ∈ A → x ∉ B')) := ⟨hAi, (List.pairwise_cons.1 hBi).2, hm', fun x hx hy => hd x hx (List.mem_cons_of_mem _ hy)⟩
            have hcm : c2 ≤ maxLen := hB.2.1
            cases A with
            | nil =>
              clear hA hB hAi hBi hm hd hm' hTi hdr ht hne
              generalize hlb : B'.length = lb at *
              have HLB : Hid (B'.length = lb) := hlb
              have hl1 : (t :: B').length = lb + 1 := by rw [List.length_cons, hlb]
              rw [hl1, List.length_nil]
              clear hlb hl1
              go_wp2
              go_roundw
              case rel => exact ⟨j + 1, [], B', _, _, _, _, by omega, by go_num, rfl, by rw [HLB.out], trivial, HAT.out, HBT.out, HM.out⟩
              case measure => simp [iOf]; omega
            | cons a0 A1 =>
              obtain ⟨ga, oa, rfl, ca, hca⟩ := hA.head
              have hat : ((a0 : Int) == (t : Int)) = false := by
                rw [beq_eq_false_iff_ne]
                intro e
                exact hne A1 (by congr 1; omega)
              clear hA hB hAi hBi hm hd hm' hTi hdr ht hne
              generalize hla : A1.length = la at *
              generalize hlb : B'.length = lb at *
              have HLA : Hid (A1.length = la) := hla
              have HLB : Hid (B'.length = lb) := hlb
              have hl1 : (t :: B').length = lb + 1 := by rw [List.length_cons, hlb]
              have hl2 : (a0 :: A1).length = la + 1 := by rw [List.length_cons, hla]
              rw [hl1, hl2]
              clear hla hlb hl1 hl2
              go_wp2
              go_roundw
              case rel => exact ⟨j + 1, a0 :: A1, B', _, _, _, _, by omega, by go_num, by rw [List.length_cons, HLA.out], by rw [HLB.out], trivial, HAT.out, HBT.out, HM.out⟩
              case measure => simp [iOf]; omega
        · have hlt' : ¬ (j : Int) < (nl : Int) := by omega
          clear hA hB hAi hBi hm hd
          generalize A.length = la at *
          generalize B.length = lb at *
          go_wp2
          go_ret
          exact ⟨rfl, HF5.out⟩
theorem cellsParts_walk (w : World) (ht : Tab w) (ao : Option Addr) (len cap : Nat) (Q : List Opq) (hQ : IsOps w ao len cap Q) (a1 : Int) (w1 : (Lit.int .i8 a1).wf = true) (tall : Bool) :
    Calls Tryd.prog 5 #[.slice ao len cap, .int .i8 a1, .bool tall] w fun e w' => e = .returned (.bool true) ∧ Below w.heap.size w w' := by
  have h1 : -128 ≤ a1 ∧ a1 ≤ 127 := by simpa [Lit.wf, IntKind.min, IntKind.max, IntKind.signed, IntKind.bits] using w1
  have h : Calls Tryd.prog 5 #[.slice ao len cap, .int .i8 a1, .bool tall] w fun e w' => e = .returned (.bool true) ∧ Fr Nobody w w' := by
    cases tall with
    | false => exact cellsParts_false w ht ao len cap Q hQ a1 _ h1 rfl
    | true => exact cellsParts_true w ht ao len cap Q hQ a1 _ h1 rfl
  refine h.mono ?_
  rintro e w' ⟨rfl, hf⟩
  exact ⟨rfl, hf.below (Nat.le_refl _) (fun _ _ h => h)⟩
theorem laidOut : laidOutB Tryd.prog = true := by kernel_rfl

set_option maxRecDepth 100000 in
theorem cellsParts_lifted (os : Os) (started : os.Started) (H : Type) (enc : TypeId × Value → H) :
    ReturnsInHanded {} Tryd.checked os 5 .any (fun w args => (Rows.cellsPartsSpec.pre enc Tryd.prog Tryd.f5 [] false w args ∧ laidMetH Tryd.prog laid1 w) ∧ sizedMet enc Tryd.prog Tryd.f5 (OpenSpec.ofChange Rows.cellsPartsSpec) false w args) (Rows.cellsPartsSpec.post enc Tryd.prog Tryd.f5 false true false false) := by
  refine returnsInHanded_of_change_and (C := Tryd.checked) (X := fun w _ => laidMetH Tryd.prog laid1 w) (fun _ _ _ hh h => h.of_heap hh) own started (by kernel_rfl) Tryd.func5
    (ChangeSpec.witness_shaped (enc := enc) (C := Tryd.checked) (os := os) (X := fun w _ => laidMetH Tryd.prog laid1 w) false (World.doorLaid Tryd.prog 400 os) #[.slice none 0 0, .int .i8 0, .bool false] 8 rfl (World.shaped_of_RefB (by kernel_rfl) (by kernel_rfl)) (by kernel_rfl) (by kernel_rfl) (by kernel_rfl) (door_met os _)) ?_
  intro W base args ds gs before hval0 hW _ _ hL _
  have hval : ∀ (j : Nat) t v, Tryd.f5.params[j]? = some t → args[j]? = some v → Value.okWide Tryd.prog W .any base t v := hval0
  have hW' := hW
  obtain ⟨p, q, hA0, hV, rfl, hfz, hnd⟩ := hW
  have hA : DataW.TrodAll enc Tryd.prog W 0 (fun _ => true) true Tryd.f5.params.toList args.toList ds p := hA0
  rw [Tryd.params5] at hA hval
  obtain ⟨v0, vs0, d0, ds0, p0, q0, hargs, rfl, rfl, h0, r0⟩ := trodAll_cons hA
  obtain ⟨v1, vs1, d1, ds1, p1, q1, rfl, rfl, rfl, h1, r1⟩ := trodAll_cons r0
  obtain ⟨v2, vs2, d2, ds2, p2, q2, rfl, rfl, rfl, h2, r2⟩ := trodAll_cons r1
  obtain ⟨rfl, rfl, rfl⟩ := trodAll_nil r2
  obtain rfl : args = #[v0, v1, v2] := by cases args; simp_all
  obtain ⟨rfl, rfl⟩ := trodVars_none hV
  obtain ⟨a0, len0, cap0, rfl⟩ := okWide_slice Tryd.underlying25 (hval 0 25 v0 rfl rfl)
  have k0 := h0
  have lt0 : ∀ x ∈ p0, x.block < W.heap.size := by obtain ⟨m, hm⟩ := k0; exact DataW.trod_lt m _ _ _ hm
  obtain ⟨z0, w0⟩ := open_ops (hval 0 25 _ rfl rfl) h0
  obtain ⟨a1, rfl, rfl, rfl, w1⟩ := open_int Tryd.underlying51 (hval 1 51 v1 rfl rfl) h1
  obtain ⟨a2, rfl, rfl, rfl⟩ := open_bool Tryd.underlying4 (hval 2 4 v2 rfl rfl) h2
  clear hA0 hval0
  refine (cellsParts_walk W (of_laid hL) a0 len0 cap0 z0 w0 a1 w1 a2).mono fun e W' ⟨he, bel⟩ => ?_
  subst he
  exact ⟨_, rfl, _, _, _, [], _, [], hW', trodAll_mk1 (shut_bool Tryd.underlying4 _), (trodAll_cons_mk (Below.trod laidOut (by kernel_rfl) (of_decide_eq_true (by kernel_rfl)) k0 bel lt0) (trodAll_cons_mk (shut_int Tryd.underlying51 w1) (trodAll_cons_mk (shut_bool Tryd.underlying4 a2) trodAll_mk0))), rfl, bel.frame _, fun h => by cases h⟩

theorem cellsParts_row : Rows.CellsPartsSaid :=
  OpenClaim.holds_of_wide 5 Tryd.f5 rfl rfl rfl rfl rfl rfl rfl ⟨rfl, rfl, rfl, rfl, rfl⟩ rfl rfl rfl rfl rfl (by kernel_rfl) Tryd.func5 (by kernel_rfl)
    (of_decide_eq_true (by kernel_rfl)) (by unfold Func.isWrapper; first | (rw [if_pos (by decide +kernel)]; kernel_rfl) | (rw [if_neg (by decide +kernel)]; exact ⟨rfl, rfl⟩))
    (fun os started H enc _ => cellsParts_lifted os started H enc)

theorem cellsParts_holds : Rows.CellsPartsCardSaid :=
  Claim7.holds_tied_plain_at .later [] [.data] true (true, "57f2681be1c13929572066f5f1e9bb9775a07279498cf8f2992ae601d68506ba") false
    cellsParts_row (fun _ h => by cases h) (by kernel_rfl) (fun _ h => by cases h) cellsParts_row_tie rfl ⟨rfl, rfl⟩ (by kernel_rfl) rfl
    (fun f fn hf hfn => by
      obtain rfl : f = 5 := Option.some.inj ((show Tryd.prog.funcNamed "pinnace/pinnacelaw16.CellsParts" = some 5 by kernel_rfl).symm.trans hf) |>.symm
      obtain rfl : fn = Tryd.f5 := (Option.some.inj (Tryd.func5.symm.trans hfn)).symm
      exact ⟨by kernel_rfl, fun j t ht => by
        rw [Tryd.params5] at ht
        have hm : t ∈ [25, 51, 4] := by simpa using Array.mem_of_getElem? ht
        have hall : ([25, 51, 4].all fun u => !Tryd.prog.wantsStandIn u) = true := by kernel_rfl
        exact (show Tryd.prog.wantsStandIn t = false by simpa using List.all_eq_true.1 hall t hm)⟩)
    (by kernel_rfl)

end Go.Proofs.YthokgjkgfolojaaDoor
