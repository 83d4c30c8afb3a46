/-
  Package table: Add.
-/
import Derived.Test.YtflmgilmbppieaaGreatDoorUf
namespace Go.Proofs.YtflmgilmbppieaaGreatDoor
open Go.RowKit Go.Maps
set_option linter.unusedVariables false
set_option maxRecDepth 100000

/-- what a table's Add does -/
def tadd (m : Nat) (L : List Ent) (id : Nat) (C : List Cp) : Nat × List Ent :=
  if lst (-1) C ≠ 0 then (lst (-1) C, L) else if msk C ≠ m then (4, L) else if (plc L id).isSome then (9, L) else (0, L ++ [(id, C)])
/-- the columns behind j components -/
def gcol (m : Nat) (L : List Ent) (C : List Cp) (j : Nat) : Nat → List Fs := fun k => if hasK (C.take j) k then clm m L k ++ [fv C k] else clm m L k
theorem gcol_zero (m : Nat) (L : List Ent) (C : List Cp) : gcol m L C 0 = clm m L := by funext k; simp [gcol, hasK]
theorem gcol_at {m : Nat} {L : List Ent} {C : List Cp} (h : lst (-1) C = 0) {j : Nat} {q : Cp} (hq : C[j]? = some q) : gcol m L C j q.k = clm m L q.k ∧ gcol m L C (j + 1) = upd (gcol m L C j) q.k (clm m L q.k ++ [q.f]) := by
  have hno : hasK (C.take j) q.k = false := by
    apply hasK_false
    intro x hx hc
    obtain ⟨i, hi⟩ := List.getElem?_of_mem hx
    rw [List.getElem?_take] at hi
    split at hi
    · rename_i hij
      have hp := (lst_ok h).1
      rw [List.pairwise_iff_getElem] at hp
      obtain ⟨h1, h2⟩ := List.getElem?_eq_some_iff.1 hi
      obtain ⟨h3, h4⟩ := List.getElem?_eq_some_iff.1 hq
      have := hp i j h1 h3 hij
      rw [h2, h4] at this
      omega
    · cases hi
  refine ⟨by unfold gcol; rw [hno]; rfl, ?_⟩
  funext k
  by_cases c : k = q.k
  · subst c
    rw [upd_same]
    unfold gcol
    rw [hasK_take_succ hq, hno]
    simp [fv_of h (List.mem_of_getElem? hq)]
  · rw [upd_other _ _ _ c]
    unfold gcol
    rw [hasK_take_succ hq, decide_eq_false (fun e => c e.symm), Bool.or_false]
theorem gcol_end {m : Nat} {L : List Ent} {C : List Cp} (hm : msk C = m) (hm6 : m < 64) (id : Nat) (k : Nat) (hk : k < 6) : gcol m L C C.length k = clm m (L ++ [(id, C)]) k := by
  rw [clm_snoc]
  unfold gcol
  rw [List.take_length, ← bt_msk C k hk, hm]

set_option maxHeartbeats 4000000 in
theorem taddC (w0 w : World) (l : List Thing) (b m : Nat) (L : List Ent) (c : Nat) (ht : Tab w0) (h : Own w0 w (Table b m L c :: l)) (hT : TOk m L) (id : Nat) (hid : id < 4294967296) (ao : Option Addr) (len cap : Nat) (C : List Cp) (hCl : C.length = len) (hCs : ∀ w', Own w0 w' l → Cs w' ao C) (hCk : ∀ q ∈ C, q.k < 256) (hlen : len ≤ 1000000) (hL : L.length ≤ 1000000) (hc : c ≤ 1000000) :
    Calls Tryz.prog 246 #[.pointer (some ⟨b, 0, none⟩), .int .u32 (id : Int), .slice ao len cap] w fun e w' => e = .returned (.int .i64 ((tadd m L id C).1 : Int)) ∧ Own w0 w' (Table b m (tadd m L id C).2 (c + 1) :: l) := by
  have hm := hT.m64
  have H : Hid (Own w0 w (Table b m L c :: l)) := h
  have HT : Hid (Tab w0 ∧ TOk m L) := ⟨ht, hT⟩
  have HCS : Hid (C.length = len ∧ (∀ w', Own w0 w' l → Cs w' ao C) ∧ ∀ q ∈ C, q.k < 256) := ⟨hCl, hCs, hCk⟩
  have HLS : Hid (Calls _ _ _ _ _) := list_any w (ht.quiet h.fr) ao len cap C hCl (hCs w h.tail) hCk hlen
  have HUP : Hid (∀ w', Own w0 w' (Table b m L c :: l) → Own w0 w' (Table b m L (c + 1) :: l)) := fun w' h' => TabG.is h' rfl (fun _ _ => rfl) (fun _ _ => rfl) (Nat.le_succ _)
  clear h ht hT hCl hCs hCk
  obtain ⟨x, hx⟩ : ∃ x, lst (-1) C = x := ⟨_, rfl⟩
  rw [hx] at HLS
  by_cases hx0 : x = 0
  · subst hx0
    have HLST : Hid (lst (-1) C = 0) := hx
    have HR : Hid (∀ w', Own w0 w' (Table b m L c :: l) → Calls Tryz.prog 181 #[.pointer (some ⟨b, 0, none⟩), .int .u32 (id : Int)] w' fun e w'' => e = .returned (lk (plc L id)) ∧ w'' = w') := fun w' h' => trow w0 w' _ b m _ _ _ c h' id hid
    have HMK : Hid (∀ w', Own w0 w' (Table b m L c :: l) → Calls Tryz.prog 204 #[.slice ao len cap] w' fun e w'' => e = .returned (.int .u8 ((msk C : Nat) : Int)) ∧ Fr Nobody w' w'') := fun w' h' => mask_any w' ao len cap C HCS.out.1 (HCS.out.2.1 w' h'.tail) HCS.out.2.2 hlen
    have HMC : Hid (∀ w', Own w0 w' (Table b m L c :: l) → w'.cell? ⟨b, 0, none⟩ = some (.int .u8 (m : Int))) := by
      intro w' h'
      obtain ⟨vi, v, mb, h'⟩ := TabG.open _ _ _ _ _ _ _ _ _ h'
      have q := h'.cell 0
      simpa [tcells] using q
    have hm64 := msk_lt C
    by_cases hmk : msk C = m
    · cases hp : plc L id with
      | some r =>
        have HV : Hid (tadd m L id C = (9, L)) := by show _ = _; unfold tadd; rw [if_neg (by simp [hx]), if_neg (by simp [hmk]), if_pos (by rw [hp]; rfl)]
        rw [hp] at HR
        simp only [lk] at HR
        rw [hmk] at HMK hm64
        clear hp hx hmk
        go_enter Tryz.func246, Tryz.ntmps246
        go_wp2_with fail
        refine HLS.out.mono ?_
        rintro e w1 ⟨rfl, hf⟩
        have H1 : Hid (Own w0 w1 (Table b m L c :: l)) := H.out.quiet hf
        clear hf HLS H
        go_wp2_with fail
        refine (HR.out _ H1.out).mono ?_
        rintro e w2 ⟨rfl, rfl⟩
        clear HR
        have q0 := HMC.out _ H1.out
        go_wp2_with fail
        go_region_with (
          go_at_call 204
          refine (HMK.out _ H1.out.drew).mono ?_
          rintro e w3 ⟨rfl, hf3⟩
          have H3 : Hid (Own w0 w3 (Table b m L c :: l)) := H1.out.drew.quiet hf3
          have q3 := HMC.out _ H3.out
          clear hf3)
        all_goals
          go_wp2
          go_ret
          rw [HV.out]
          exact ⟨rfl, HUP.out _ H3.out⟩
      | none =>
        have HV : Hid (tadd m L id C = (0, L ++ [(id, C)])) := by show _ = _; unfold tadd; rw [if_neg (by simp [hx]), if_neg (by simp [hmk]), if_neg (by rw [hp]; simp)]
        have HEND : Hid (∀ w', Own w0 w' (TabG b m (ids L ++ [id]) (gcol m L C len) (fun x => if x = id then some L.length else plc L x) (c + 1) :: l) → Own w0 w' (Table b m (L ++ [(id, C)]) (c + 1) :: l)) := by
          intro w' h'
          refine TabG.is h' (by simp [ids]) (fun k hk => by rw [← HCS.out.1]; exact gcol_end hmk hm id k hk) (fun x _ => (plc_snoc L (id, C) hp x).symm) (Nat.le_refl _)
        have HMP : Hid (∀ w', Own w0 w' (Table b m L c :: l) → ∃ mb w'', w'.cell? ⟨b, 8, none⟩ = some (.map (some mb)) ∧ (Instr.mapUpdate 319 (.map (some mb)) (.int .u32 (id : Int)) (.int .i64 (L.length : Int))).run Tryz.prog w' = .ok () w'' ∧ Own w0 w'' (TabG b m (ids L) (clm m L) (fun x => if x = id then some L.length else plc L x) (c + 1) :: l)) := by
          intro w' h'
          obtain ⟨vi, v, mb, h'⟩ := TabG.open _ _ _ _ _ _ _ _ _ h'
          have q := h'.cell 8
          simp [tcells] at q
          obtain ⟨w'', r1, r2⟩ := h'.three.mapPut id L.length hid hL (by unfold maxLen; omega)
          exact ⟨mb, w'', q, r1, TabG.shut _ _ _ _ _ _ _ _ _ vi v mb r2.back3⟩
        have HLN : Hid (∀ w', Own w0 w' (Table b m L c :: l) → Calls Tryz.prog 210 #[.pointer (some ⟨b, 0, none⟩)] w' fun e w'' => e = .returned (.int .i64 (L.length : Int)) ∧ w'' = w') := fun w' h' => by have := tlen w0 w' l b m _ _ _ c h'; rw [length_ids] at this; exact this
        have HLC : Hid (∀ k, (clm m L k).length ≤ 1000000) := by intro k; rw [length_clm]; split <;> omega
        rw [hp] at HR
        simp only [lk] at HR
        rw [hmk] at HMK hm64
        clear hp hx hmk
        go_enter Tryz.func246, Tryz.ntmps246
        go_wp2_with fail
        refine HLS.out.mono ?_
        rintro e w1 ⟨rfl, hf⟩
        have H1 : Hid (Own w0 w1 (Table b m L c :: l)) := H.out.quiet hf
        clear hf HLS H
        go_wp2_with fail
        refine (HR.out _ H1.out).mono ?_
        rintro e w2 ⟨rfl, rfl⟩
        clear HR
        have q0 := HMC.out _ H1.out
        go_wp2_with fail
        go_region_with (
          go_at_call 204
          refine (HMK.out _ H1.out.drew).mono ?_
          rintro e w3 ⟨rfl, hf3⟩
          have H3 : Hid (Own w0 w3 (Table b m L c :: l)) := H1.out.drew.quiet hf3
          have q3 := HMC.out _ H3.out
          clear hf3)
        all_goals
          clear HMK H1 q0 q3
          obtain ⟨mb, w4, q8, hrun, hO4⟩ := HMP.out _ H3.out.drew
          have HL3 : Hid (Calls _ _ _ _ _) := HLN.out _ H3.out.drew
          have H4 : Hid (Own w0 w4 (TabG b m (ids L) (clm m L) (fun x => if x = id then some L.length else plc L x) (c + 1) :: l)) := hO4
          clear hO4 HMP HLN
          go_wp2_with fail
          go_region_with (
            go_at_call 210
            refine HL3.out.mono ?_
            rintro e w5 ⟨rfl, rfl⟩)
          all_goals
            clear H3 q8 hrun HL3
            go_wp2_with fail
            refine (tpushI w0 _ l b m _ _ _ (c + 1) H4.out id (by rw [length_ids]; exact hL)).mono ?_
            rintro e w6 ⟨rfl, hO6⟩
            have H6 : Hid (Own w0 w6 (TabG b m (ids L ++ [id]) (gcol m L C 0) (fun x => if x = id then some L.length else plc L x) (c + 1) :: l)) := by rw [gcol_zero]; exact hO6
            clear hO6 H4
            go_wp2
            go_loopw [49] (fun cv wr => ∃ j : Nat, j ≤ len ∧ cv = .int .i64 j ∧ Own w0 wr (TabG b m (ids L ++ [id]) (gcol m L C j) (fun x => if x = id then some L.length else plc L x) (c + 1) :: l)) (fun cv _ => len - (intOf cv).toNat)
            case atStart => exact ⟨0, Nat.zero_le _, rfl, H6.out⟩
            case round =>
              obtain ⟨j, hj, rfl, hO⟩ := hrel
              have HO : Hid (Own w0 wr (TabG b m (ids L ++ [id]) (gcol m L C j) (fun x => if x = id then some L.length else plc L x) (c + 1) :: l)) := hO
              clear H6
              by_cases hlt : j < len
              · obtain ⟨q, hq⟩ : ∃ q, C[j]? = some q := ⟨_, List.getElem?_eq_getElem (by rw [HCS.out.1]; exact hlt)⟩
                obtain ⟨gg, o0, hao, _, c0, c1, c2, c3⟩ := (HCS.out.2.1 wr hO.tail).at j q hq
                subst hao
                have hq6 : q.k < 6 := chk_k ((lst_ok HLST.out).2 q (List.mem_of_getElem? hq)).2
                obtain ⟨g1, g2⟩ := gcol_at (m := m) (L := L) HLST.out hq
                have HPU : Hid (∀ w', Own w0 w' (TabG b m (ids L ++ [id]) (gcol m L C j) (fun x => if x = id then some L.length else plc L x) (c + 1) :: l) → Calls Tryz.prog 258 #[.pointer (some ⟨b, 2 + q.k, none⟩), .agg #[.int .i32 q.a, .int .i32 q.b, .int .i32 q.c]] w' fun e w'' => e = .returned (.tuple #[]) ∧ Own w0 w'' (TabG b m (ids L ++ [id]) (gcol m L C (j + 1)) (fun x => if x = id then some L.length else plc L x) (c + 1) :: l)) := by
                  intro w' h'
                  have := tpush w0 w' l b m _ _ _ (c + 1) h' q.k hq6 q.f (by rw [g1]; exact HLC.out _)
                  rw [g1, ← g2] at this
                  exact this
                have HA : Hid (Own w0 (wr.alloc (.cells #[.int .u8 (q.k : Int), .int .i32 q.a, .int .i32 q.b, .int .i32 q.c] 46)) (TabG b m (ids L ++ [id]) (gcol m L C j) (fun x => if x = id then some L.length else plc L x) (c + 1) :: l)) := hO.alloc _
                have hlt' : (j : Int) < (len : Int) := by omega
                have hq6' : (q.k : Int) < 6 := by omega
                clear hq g1 g2 hO
                obtain ⟨qk, qa, qb, qc⟩ := q
                simp only at c0 c1 c2 c3 hq6 hq6' HPU HA
                go_wp2_with fail
                go_region_with (
                  go_at_call 258
                  refine (HPU.out _ HA.out.drew).mono ?_
                  rintro e w8 ⟨rfl, hO8⟩
                  have H8 : Hid (Own w0 w8 (TabG b m (ids L ++ [id]) (gcol m L C (j + 1)) (fun x => if x = id then some L.length else plc L x) (c + 1) :: l)) := hO8
                  clear hO8)
                all_goals
                  go_wp2
                  go_roundw
                  case rel => exact ⟨j + 1, by omega, by go_num, H8.out⟩
                  case measure => simp [intOf]; omega
              · have hlt' : ¬ (j : Int) < (len : Int) := by omega
                have hjl : j = len := by omega
                subst hjl
                clear hO
                go_wp2
                go_ret
                rw [HV.out]
                exact ⟨rfl, HEND.out _ HO.out⟩
    · have HV : Hid (tadd m L id C = (4, L)) := by show _ = _; unfold tadd; rw [if_neg (by simp [hx]), if_pos hmk]
      have hne : ((msk C : Int) != (m : Int)) = true := by simp; omega
      clear hx
      generalize msk C = mc at *
      cases hp : plc L id with
      | some r =>
        rw [hp] at HR
        simp only [lk] at HR
        clear hp
        go_enter Tryz.func246, Tryz.ntmps246
        go_wp2_with fail
        refine HLS.out.mono ?_
        rintro e w1 ⟨rfl, hf⟩
        have H1 : Hid (Own w0 w1 (Table b m L c :: l)) := H.out.quiet hf
        clear hf HLS H
        go_wp2_with fail
        refine (HR.out _ H1.out).mono ?_
        rintro e w2 ⟨rfl, rfl⟩
        clear HR
        have q0 := HMC.out _ H1.out
        go_wp2_with fail
        go_region_with (
          go_at_call 204
          refine (HMK.out _ H1.out.drew).mono ?_
          rintro e w3 ⟨rfl, hf3⟩
          have H3 : Hid (Own w0 w3 (Table b m L c :: l)) := H1.out.drew.quiet hf3
          have q3 := HMC.out _ H3.out
          clear hf3)
        all_goals
          go_wp2
          go_ret
          rw [HV.out]
          exact ⟨rfl, HUP.out _ H3.out⟩
      | none =>
        rw [hp] at HR
        simp only [lk] at HR
        clear hp
        go_enter Tryz.func246, Tryz.ntmps246
        go_wp2_with fail
        refine HLS.out.mono ?_
        rintro e w1 ⟨rfl, hf⟩
        have H1 : Hid (Own w0 w1 (Table b m L c :: l)) := H.out.quiet hf
        clear hf HLS H
        go_wp2_with fail
        refine (HR.out _ H1.out).mono ?_
        rintro e w2 ⟨rfl, rfl⟩
        clear HR
        have q0 := HMC.out _ H1.out
        go_wp2_with fail
        go_region_with (
          go_at_call 204
          refine (HMK.out _ H1.out.drew).mono ?_
          rintro e w3 ⟨rfl, hf3⟩
          have H3 : Hid (Own w0 w3 (Table b m L c :: l)) := H1.out.drew.quiet hf3
          have q3 := HMC.out _ H3.out
          clear hf3)
        all_goals
          go_wp2
          go_ret
          rw [HV.out]
          exact ⟨rfl, HUP.out _ H3.out⟩
  · have HV : Hid (tadd m L id C = (x, L)) := by show _ = _; unfold tadd; rw [if_pos (by rw [hx]; exact hx0), hx]
    have hx1 : ((x : Int) != 0) = true := by simpa using hx0
    clear hx
    go_enter Tryz.func246, Tryz.ntmps246
    go_wp2_with fail
    refine HLS.out.mono ?_
    rintro e w1 ⟨rfl, hf⟩
    have H1 : Hid (Own w0 w1 (Table b m L c :: l)) := H.out.quiet hf
    clear hf HLS H
    go_wp2
    go_ret
    rw [HV.out]
    exact ⟨rfl, HUP.out _ H1.out⟩
end Go.Proofs.YtflmgilmbppieaaGreatDoor
