/-
  The document's table: Add, Get.
-/
import Derived.Test.YtibdgdbkdnifbaaGreatDoorDa
import Derived.Test.YtibdgdbkdnifbaaGreatDoorUg
import Derived.Deep.RegionLaw
namespace Go.Proofs.YtibdgdbkdnifbaaGreatDoor
open Go.RowKit Go.Maps
set_option linter.unusedVariables false
set_option maxRecDepth 100000

theorem step_twin {ops : Array Oper} {o : Oper} {a : Act} {w : World} {K : Act → World → Prop} {Q : Exit → Act → World → Prop} {E : Prop}
    (hg : o.guard = none) (x : Operand) (t : TypeId) (hop : o.op = Op.call { callee := Callee.value (Operand.func 7), args := #[x], argTypes := #[t] })
    (vx : Value) (hx : a.eval x = vx) (G : Value → World → Prop) (hcall : Calls Tryz.prog 7 #[vx] w fun e w' => ∃ v', e = .returned v' ∧ G v' w')
    (hK : ∀ v' w', G v' w' → K (a.put o.dst v') w') :
    if Region.wanted o (yielded ops a.tmps) = true then Oper.wp Tryz.prog o a w K Q else E := by
  have hw : Region.wanted o (yielded ops a.tmps) = true := by simp [Region.wanted, hg]
  rw [if_pos hw]
  unfold Oper.wp
  have hfn : a.eval (Operand.func 7) = .func (.func 7) #[] #[] := rfl
  simp [execOp, hop, resolve, invoke, hx, hfn, Deferred.ofValue]
  go_simp
  refine hcall.mono ?_
  rintro e w' ⟨v', rfl, h⟩
  exact hK v' w' h

set_option maxHeartbeats 4000000 in
theorem rtaddC (w0 w : World) (l : List Thing) (b o : Nat) (cur : Array Value) (m : Nat) (L : List Ent) (h : Own w0 w (RTab b o cur m L :: l)) (hT : TOk m L) (id : Nat) (hid : id < 4294967296) (ao : Option Addr) (len cap : Nat) (C : List Cp) (hCl : C.length = len) (hCs : ∀ w', Own w0 w' l → Cs w' ao C) (hCk : ∀ q ∈ C, q.k < 256) (hlen : len ≤ 1000000) (hL : L.length ≤ 1000000) :
    Calls Tryz.prog 69 #[.pointer (some ⟨b, o, none⟩), .int .u32 (id : Int), .slice ao len cap] w fun e w' => e = .returned (.int .i64 ((tadd m L id C).1 : Int)) ∧ Own w0 w' (RTab b o cur m (tadd m L id C).2 :: l) := by
  have HCU : Hid (cur[o]? = some (.int .u8 (m : Int)) ∧ o + 1 < cur.size) := RTab.facts h
  obtain ⟨i0, hi, hz0, hz1, hz2⟩ := info_parts Tryz.infoEnt
  have hm := hT.m64
  have H : Hid (Own w0 w (RTab b o cur m L :: l)) := h
  have HT : Hid (TOk m L) := hT
  have HCS : Hid (C.length = len ∧ (∀ w', Own w0 w' l → Cs w' ao C) ∧ ∀ q ∈ C, q.k < 256) := ⟨hCl, hCs, hCk⟩
  have HLS : Hid (Calls _ _ _ _ _) := rlist_any w ao len cap C hCl (hCs w h.tail) hCk hlen
  clear h hT hCl hCs hCk
  obtain ⟨x, hx⟩ : ∃ x, lst (-1) C = x := ⟨_, rfl⟩
  rw [hx] at HLS
  by_cases hx0 : x = 0
  · subst hx0
    have HLST : Hid (lst (-1) C = 0) := hx
    have HR : Hid (∀ w', Own w0 w' (RTab b o cur m L :: l) → Calls Tryz.prog 76 #[.pointer (some ⟨b, o, none⟩), .int .u32 (id : Int)] w' fun e w'' => e = .returned (.int .i64 (pl1 (plc L id))) ∧ Fr Nobody w' w'') := fun w' h' => rtrow w0 w' _ b o cur m L h' HT.out.ap hL id
    have HMK : Hid (∀ w', Own w0 w' (RTab b o cur m L :: l) → Calls Tryz.prog 70 #[.slice ao len cap] w' fun e w'' => e = .returned (.int .u8 ((msk C : Nat) : Int)) ∧ Fr Nobody w' w'') := fun w' h' => rmask_any w' ao len cap C HCS.out.1 (HCS.out.2.1 w' h'.tail) HCS.out.2.2 hlen
    have HMC : Hid (∀ w', Own w0 w' (RTab b o cur m L :: l) → w'.cell? ⟨b, o, none⟩ = some (.int .u8 (m : Int))) := by
      intro w' h'
      obtain ⟨v, E, _, h'⟩ := RTab.open h'
      have q := h'.cell o
      rw [tcur_m, HCU.out.1] at q
      exact q
    have hm64 := msk_lt C
    by_cases hmk : msk C = m
    · rw [hmk] at HMK hm64
      cases hp : plc L id with
      | some r =>
        have HV : Hid (tadd m L id C = (9, L)) := by show _ = _; unfold tadd; rw [if_neg (by simp [hx]), if_neg (by simp [hmk]), if_pos (by rw [hp]; rfl)]
        rw [hp] at HR
        simp only [pl1] at HR
        have hr0 : ¬ (r : Int) < 0 := by omega
        have hr1 : (0 : Int) ≤ (r : Int) := by omega
        clear hp hx hmk
        go_enter Tryz.func69, Tryz.ntmps69
        go_wp2_with fail
        refine HLS.out.mono ?_
        rintro e w1 ⟨rfl, hf⟩
        have H1 : Hid (Own w0 w1 (RTab b o cur m L :: l)) := H.out.quiet hf
        clear hf HLS H
        have q0 := HMC.out _ H1.out
        go_wp2_with fail
        go_region_with (
          go_at_call 70
          refine (HMK.out _ H1.out.drew).mono ?_
          rintro e w3 ⟨rfl, hf3⟩
          have H3 : Hid (Own w0 w3 (RTab b o cur m L :: l)) := H1.out.drew.quiet hf3
          have q3 := HMC.out _ H3.out
          clear hf3)
        all_goals
          go_wp2_with fail
          refine (HR.out _ H3.out).mono ?_
          rintro e w4 ⟨rfl, hf4⟩
          have H4 : Hid (Own w0 w4 (RTab b o cur m L :: l)) := H3.out.quiet hf4
          clear hf4
          go_wp2
          go_ret
          rw [HV.out]
          exact ⟨rfl, H4.out⟩
      | none =>
        have HV : Hid (tadd m L id C = (0, L ++ [(id, C)])) := by show _ = _; unfold tadd; rw [if_neg (by simp [hx]), if_neg (by simp [hmk]), if_neg (by rw [hp]; simp)]
        rw [hp] at HR
        simp only [pl1] at HR
        clear hp hx hmk
        go_enter Tryz.func69, Tryz.ntmps69
        go_wp2_with fail
        refine HLS.out.mono ?_
        rintro e w1 ⟨rfl, hf⟩
        have H1 : Hid (Own w0 w1 (RTab b o cur m L :: l)) := H.out.quiet hf
        clear hf HLS H
        have q0 := HMC.out _ H1.out
        go_wp2_with fail
        go_region_with (
          go_at_call 70
          refine (HMK.out _ H1.out.drew).mono ?_
          rintro e w3 ⟨rfl, hf3⟩
          have H3 : Hid (Own w0 w3 (RTab b o cur m L :: l)) := H1.out.drew.quiet hf3
          have q3 := HMC.out _ H3.out
          clear hf3)
        all_goals
          clear q0 q3 HMK H1
          go_wp2_with fail
          refine (HR.out _ H3.out).mono ?_
          rintro e w4 ⟨rfl, hf4⟩
          obtain ⟨v, E, hE, hO4⟩ := RTab.open (H3.out.quiet hf4)
          obtain ⟨ae, ce, rfl⟩ := row_any hO4.two.row
          have q1 := hO4.cell (o + 1)
          rw [tcur_at HCU.out.2] at q1
          have HEL : Hid (E.map REnt.e = L ∧ E.length = L.length) := ⟨hE, by rw [← hE, List.length_map]⟩
          have hen : E.length ≤ 1000000 := by rw [HEL.out.2]; exact hL
          have HTW : Hid (Calls _ _ _ _ _) := twin_any w0 w4.drew _ hO4.drew ao len cap C HCS.out.1 (HCS.out.2.1 _ ((H3.out.quiet hf4).drew.tail)) hlen
          clear hf4 hE HR H3
          generalize hEn : E.length = en at *
          have HEN : Hid (E.length = en) := hEn
          clear hEn hO4
          go_wp2_with fail
          go_region_law (first
            | (refine step_twin rfl (.tmp 32) 34 rfl _ (by first | (simp [Act.eval]; done) | simp [Act.eval, Act.put]) (fun v' w' => ∃ a2 c2, v' = .slice a2 len c2 ∧ Own w0 w' (Row 48 4 (.slice a2 len c2) len (ccat C) :: Cells b (cur.setIfInBounds (o + 1) (.slice ae en ce)) 83 :: Row 94 2 (.slice ae en ce) en (cat rcells E) :: (E.map rrow ++ l))) (HTW.out.mono fun e w' ⟨a2, c2, h1, h2⟩ => ⟨_, h1, a2, c2, rfl, h2⟩) ?_
               rintro v5 w5 ⟨a2, c2, rfl, hO5⟩
               have q5 := hO5.two.cell (o + 1)
               rw [tcur_at HCU.out.2] at q5
               obtain ⟨g6, c6, w6, hrun, hO6⟩ := run1_own (P := Tryz.prog) 78 78 94 i0 (.agg #[.int .u32 0, .slice none 0 0]) 2 32 Tryz.underlying78 hi hz0 hz1 hz2 rfl (by decide) _ en _ hO5.three #[.int .u32 (id : Int), .slice a2 len c2] rfl (by intro u hu; simp at hu; rcases hu with rfl | rfl <;> rfl) (by unfold maxLen; omega) (by omega)
               have hbw := hO5.two.lt
               have hbn : b ≠ w5.heap.size := by omega
               have hbn' : w5.heap.size ≠ b := by omega
               have HRUN : Hid _ := hrun
               have q6 := hO6.three.cell (o + 1)
               have z6 := hO6.three.froz (o + 1)
               rw [tcur_at HCU.out.2] at q6
               have HO6 : Hid (Own w0 w6 _) := hO6
               clear hO5 hO6 hrun)
            | (refine step_run rfl (.tmp 30) (.tmp 35) 78 78 78 rfl rfl (.slice ae en ce) (.slice (some ⟨w5.heap.size, 0, none⟩) 1 1) (.slice (some ⟨g6, 0, none⟩) (en + 1) c6) w6 (by first | (simp [Act.eval]; done) | simp [Act.eval, Act.put]) (by first | (simp [Act.eval]; done) | simp [Act.eval, Act.put]) HRUN.out ?_))
          all_goals
            have HFIN : Hid (Own w0 (w6.setCell ⟨b, o + 1, none⟩ (.slice (some ⟨g6, 0, none⟩) (en + 1) c6)) (RTab b o cur m (L ++ [(id, C)]) :: l)) := by
              have h7 := HO6.out.three.setC (o + 1) (.slice (some ⟨g6, 0, none⟩) (en + 1) c6)
              rw [Array.setIfInBounds_setIfInBounds] at h7
              refine RTab.shut (v := .slice (some ⟨g6, 0, none⟩) (en + 1) c6) (E := E ++ [(id, C, a2, c2)]) (by rw [List.map_append, HEL.out.1]; rfl) HCU.out ?_
              rw [List.length_append, HEN.out, cat_append, List.map_append, List.append_assoc]
              have hcl := HCS.out.1
              have e2 : cat rcells [(id, C, a2, c2)] = [.int .u32 (id : Int), .slice a2 len c2] := by
                show [Value.int .u32 (id : Int), Value.slice a2 C.length c2] = _
                rw [hcl]
              rw [e2]
              refine h7.perm (List.Perm.cons _ (List.Perm.cons _ ?_))
              have e1 : rrow (id, C, a2, c2) = Row 48 4 (.slice a2 len c2) len (ccat C) := by unfold rrow REnt.v; simp only; rw [hcl]
              show (_ :: (E.map rrow ++ l)).Perm (E.map rrow ++ (rrow (id, C, a2, c2) :: l))
              rw [e1]
              exact List.perm_middle.symm
            clear HO6
            go_wp2
            go_ret
            rw [HV.out]
            exact ⟨rfl, HFIN.out⟩
    · have HV : Hid (tadd m L id C = (4, L)) := by show _ = _; unfold tadd; rw [if_neg (by simp [hx]), if_pos hmk]
      have hne : ((msk C : Int) != (m : Int)) = true := by simp; omega
      clear hx
      generalize msk C = mc at *
      go_enter Tryz.func69, Tryz.ntmps69
      go_wp2_with fail
      refine HLS.out.mono ?_
      rintro e w1 ⟨rfl, hf⟩
      have H1 : Hid (Own w0 w1 (RTab b o cur m L :: l)) := H.out.quiet hf
      clear hf HLS H
      have q0 := HMC.out _ H1.out
      go_wp2_with fail
      go_region_with (
        go_at_call 70
        refine (HMK.out _ H1.out.drew).mono ?_
        rintro e w3 ⟨rfl, hf3⟩
        have H3 : Hid (Own w0 w3 (RTab b o cur m L :: l)) := H1.out.drew.quiet hf3
        have q3 := HMC.out _ H3.out
        clear hf3)
      all_goals
        go_wp2
        go_ret
        rw [HV.out]
        exact ⟨rfl, H3.out⟩
  · have HV : Hid (tadd m L id C = (x, L)) := by show _ = _; unfold tadd; rw [if_pos (by rw [hx]; exact hx0), hx]
    have hx1 : ((x : Int) != 0) = true := by simpa using hx0
    clear hx
    go_enter Tryz.func69, Tryz.ntmps69
    go_wp2_with fail
    refine HLS.out.mono ?_
    rintro e w1 ⟨rfl, hf⟩
    have H1 : Hid (Own w0 w1 (RTab b o cur m L :: l)) := H.out.quiet hf
    clear hf HLS H
    go_wp2
    go_ret
    rw [HV.out]
    exact ⟨rfl, H1.out⟩
end Go.Proofs.YtibdgdbkdnifbaaGreatDoor
