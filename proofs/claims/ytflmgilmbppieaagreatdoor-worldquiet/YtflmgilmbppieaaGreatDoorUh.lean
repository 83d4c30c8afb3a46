/-
  Package table: Remove; tables that are nil.
-/
import Derived.Test.YtflmgilmbppieaaGreatDoorUf
namespace Go.Proofs.YtflmgilmbppieaaGreatDoor
open Go.RowKit Go.Maps
set_option linter.unusedVariables false
set_option maxRecDepth 100000

/-- delete of a key, its run being told -/
theorem delete_run {P : Program} {w w' : World} {ops : Array Oper} {rest : List Oper} {o : Oper} {a : Act} {Q : Exit → Act → World → Prop} (hgd : o.guard = none) (s x : Operand) (t t' : TypeId)
    (ho : o.op = .call { callee := .builtin .delete, args := #[s, x], argTypes := #[t, t'] }) (vs vx : Value) (hs : a.eval s = vs) (hx : a.eval x = vx)
    (hrun : (Builtin.delete_ #[t, t'] o.type #[vs, vx]).run P w = .ok (.tuple #[]) w') (h : wpList P ops Q rest (a.put o.dst (.tuple #[])) w') : wpList P ops Q (o :: rest) a w := by
  refine wpList_plain hgd fun K hK' => ?_
  unfold Oper.wp
  simp [execOp, ho, resolve, invoke, builtin, hs, hx, hrun, Result.andThen]
  exact hK' _ _ h

/-- the columns behind j components that have lost a row -/
def hcol (m : Nat) (L : List Ent) (C : List Cp) (r j : Nat) : Nat → List Fs := fun k => if hasK (C.take j) k then outr (clm m L k) r else clm m L k
theorem hcol_zero (m : Nat) (L : List Ent) (C : List Cp) (r : Nat) : hcol m L C r 0 = clm m L := by funext k; simp [hcol, hasK]
theorem hcol_at {m : Nat} {L : List Ent} {C : List Cp} (h : lst (-1) C = 0) (r : Nat) {j : Nat} {q : Cp} (hq : C[j]? = some q) : hcol m L C r j q.k = clm m L q.k ∧ hcol m L C r (j + 1) = upd (hcol m L C r j) q.k (outr (clm m L q.k) r) := by
  have hno : hasK (C.take j) q.k = false := by
    apply hasK_false
    intro x hx hc
    obtain ⟨i, hi⟩ := List.getElem?_of_mem hx
    rw [List.getElem?_take] at hi
    split at hi
    · rename_i hij
      have hp := (lst_ok h).1
      rw [List.pairwise_iff_getElem] at hp
      obtain ⟨h1, h2⟩ := List.getElem?_eq_some_iff.1 hi
      obtain ⟨h3, h4⟩ := List.getElem?_eq_some_iff.1 hq
      have := hp i j h1 h3 hij
      rw [h2, h4] at this
      omega
    · cases hi
  refine ⟨by unfold hcol; rw [hno]; rfl, ?_⟩
  funext k
  by_cases c : k = q.k
  · subst c
    rw [upd_same]
    unfold hcol
    rw [hasK_take_succ hq, hno]
    simp
  · rw [upd_other _ _ _ c]
    unfold hcol
    rw [hasK_take_succ hq, decide_eq_false (fun e => c e.symm), Bool.or_false]
theorem hcol_end {m : Nat} {L : List Ent} {C : List Cp} (hm : msk C = m) (r : Nat) (hr : r < L.length) (k : Nat) (hk : k < 6) : hcol m L C r C.length k = clm m (outr L r) k := by
  rw [clm_outr m L r k hr]
  unfold hcol
  rw [List.take_length, ← bt_msk C k hk, hm]
theorem Own.rcs {w0 w : World} {l : List Thing} {ao : Option Addr} {cap n : Nat} {L : List Cp} (h : Own w0 w (Row 46 4 (.slice ao n cap) n (ccat L) :: l)) (hn : L.length = n) : Cs w ao L := Own.cs (h.view (by decide)) hn

section
variable (w0 w : World) (l : List Thing) (b m : Nat) (L : List Ent) (c : Nat)
set_option maxHeartbeats 1000000 in
theorem tremNo (h : Own w0 w (Table b m L c :: l)) (id : Nat) (hid : id < 4294967296) (hp : plc L id = none) :
    Calls Tryz.prog 209 #[.pointer (some ⟨b, 0, none⟩), .int .u32 (id : Int)] w fun e w' => e = .returned (.tuple #[.slice none 0 0, .int .i64 7]) ∧ w' = w := by
  have HR : Hid (Calls _ _ _ _ _) := trow w0 w _ b m _ _ _ c h id hid
  rw [hp] at HR
  simp only [lk] at HR
  clear h hp
  go_enter Tryz.func209, Tryz.ntmps209
  go_wp2_with fail
  refine HR.out.mono ?_
  rintro e w1 ⟨rfl, rfl⟩
  clear HR
  go_wp2
  go_ret2
  exact ⟨rfl, rfl⟩
set_option maxHeartbeats 4000000 in
theorem tremC (h : Own w0 w (Table b m L c :: l)) (hT : TOk m L) (id : Nat) (hid : id < 4294967296) (r : Nat) (e : Ent) (hp : plc L id = some r) (he : L[r]? = some e) (hL : L.length ≤ 1000000) (hc : c ≤ 1000000) :
    Calls Tryz.prog 209 #[.pointer (some ⟨b, 0, none⟩), .int .u32 (id : Int)] w fun out w' => ∃ ao cap, out = .returned (.tuple #[.slice ao e.2.length cap, .int .i64 0]) ∧ Own w0 w' (Row 46 4 (.slice ao e.2.length cap) e.2.length (ccat e.2) :: Table b m (outr L r) (c + 1) :: l) := by
  have hm := hT.m64
  have hrl := (List.getElem?_eq_some_iff.1 he).1
  have heo := hT.ok e (List.mem_of_getElem? he)
  have HR : Hid (Calls _ _ _ _ _) := trow w0 w _ b m _ _ _ c h id hid
  rw [hp] at HR
  simp only [lk] at HR
  have HC : Hid (Calls _ _ _ _ _) := tcomps w0 w l b m L c h hT r e he
  obtain ⟨n, hn⟩ : ∃ n, L.length = n + 1 := ⟨L.length - 1, by omega⟩
  obtain ⟨last, hlast⟩ : ∃ x, L[n]? = some x := ⟨_, List.getElem?_eq_getElem (by omega)⟩
  have hli := hT.id last (List.mem_of_getElem? hlast)
  have HPT : Hid (∀ w' l', Own w0 w' (Table b m L c :: l') → ∃ mb w'' gi ci, w'.cell? ⟨b, 8, none⟩ = some (.map (some mb)) ∧ w'.cell? ⟨b, 1, none⟩ = some (.slice (some ⟨gi, 0, none⟩) (n + 1) ci) ∧ w'.cell? ⟨gi, n, none⟩ = some (.int .u32 (last.1 : Int)) ∧ (Instr.mapUpdate 319 (.map (some mb)) (.int .u32 (last.1 : Int)) (.int .i64 (r : Int))).run Tryz.prog w' = .ok () w'' ∧ w''.cell? ⟨b, 8, none⟩ = some (.map (some mb)) ∧ ∃ w3, (Builtin.delete_ #[319, 38] 0 #[.map (some mb), .int .u32 (id : Int)]).run Tryz.prog w'' = .ok (.tuple #[]) w3 ∧ Own w0 w3 (TabG b m (ids L) (clm m L) (plc (outr L r)) (c + 1) :: l')) := by
    intro w' l' h'
    obtain ⟨vi, v, mb, h'⟩ := TabG.open _ _ _ _ _ _ _ _ _ h'
    rw [length_ids, hn] at h'
    obtain ⟨gi, ci, rfl, _⟩ := row_shape h'.two.row (by omega)
    have q := h'.cell 8
    have q1 := h'.cell 1
    simp [tcells] at q q1
    have c1 := h'.two.row.cellAt n (by omega)
    rw [getElem?_irow, ids, List.getElem?_map, hlast] at c1
    obtain ⟨w'', r1, r2⟩ := h'.three.mapPut last.1 r hli (by omega) (by unfold maxLen; omega)
    have q2 := r2.two.cell 8
    simp [tcells] at q2
    obtain ⟨w3, s1, s2⟩ := r2.mapDrop id hid 0
    refine ⟨mb, w'', gi, ci, q, q1, c1, r1, q2, w3, s1, ?_⟩
    have s3 := s2.mapIs (q := plc (outr L r)) (c + 1) (Nat.le_refl _) (fun x _ => by
      rw [plc_outr hT.ap hp (last := last) (by rw [hn]; exact hlast)])
    refine TabG.shut _ _ _ _ _ _ _ _ _ (.slice (some ⟨gi, 0, none⟩) (n + 1) ci) v mb ?_
    rw [length_ids, hn]
    exact s3.back3
  have HLN : Hid (∀ w' l', Own w0 w' (Table b m L c :: l') → Calls Tryz.prog 210 #[.pointer (some ⟨b, 0, none⟩)] w' fun e w'' => e = .returned (.int .i64 ((n : Int) + 1)) ∧ w'' = w') := fun w' l' h' => by
    have := tlen w0 w' l' b m _ _ _ c h'
    rw [length_ids, hn] at this
    exact this
  have HDI : Hid (∀ w' l', Own w0 w' (TabG b m (ids L) (clm m L) (plc (outr L r)) (c + 1) :: l') → Calls Tryz.prog 241 #[.pointer (some ⟨b, 1, none⟩), .int .i64 (r : Int)] w' fun e' w'' => e' = .returned (.tuple #[]) ∧ Own w0 w'' (TabG b m (ids (outr L r)) (hcol m L e.2 r 0) (plc (outr L r)) (c + 1) :: l')) := by
    intro w' l' h'
    refine (tdropI w0 w' l' b m _ _ _ (c + 1) h' r n (by rw [length_ids, hn]) (by omega) (by omega)).mono ?_
    rintro e' w'' ⟨h1, h2⟩
    refine ⟨h1, ?_⟩
    rw [hcol_zero, ids, map_outr _ _ _ hrl]
    exact h2
  have HEND : Hid (∀ w' l', Own w0 w' (TabG b m (ids (outr L r)) (hcol m L e.2 r e.2.length) (plc (outr L r)) (c + 1) :: l') → Own w0 w' (Table b m (outr L r) (c + 1) :: l')) := fun w' l' h' => TabG.is h' rfl (fun k hk => hcol_end heo.2 r hrl k hk) (fun _ _ => rfl) (Nat.le_refl _)
  have HLEN : Hid (∀ k, hasK e.2 k = true → (clm m L k).length = n + 1) := by
    intro k hk
    obtain ⟨x, hx, rfl⟩ := (hasK_iff _ _).1 hk
    have h6 := chk_k ((lst_ok heo.1).2 x hx).2
    rw [length_clm, ← heo.2, bt_msk _ _ h6, hk, if_pos rfl, hn]
  have HLST : Hid (lst (-1) e.2 = 0) := heo.1
  have hrn : r < n + 1 := by omega
  have hw1 : IntKind.i64.wrap (n : Int) = (n : Int) := by rw [IntKind.wrap_i64]; omega
  have hw2 : IntKind.i64.wrap ((n : Int) + 1 - 1) = (n : Int) := by rw [IntKind.wrap_i64]; omega
  have hw3 : ¬ (n : Int) < 0 := by omega
  have hw4 : (n : Int) < (n : Int) + 1 := by omega
  have hn6 : n ≤ 1000000 := by omega
  have h6 : e.2.length ≤ 6 := by
    rw [← comps_of heo.1 heo.2, List.length_map]
    exact Nat.le_trans (List.length_filter_le _ _) (by simp)
  clear h hp he heo hlast hT hn hrl hL
  generalize e.2 = C at *
  generalize last.1 = li at *
  generalize hlen : C.length = len at *
  have HCL : Hid (C.length = len) := hlen
  clear hlen
  go_enter Tryz.func209, Tryz.ntmps209
  go_wp2_with fail
  refine HR.out.mono ?_
  rintro out w1 ⟨rfl, rfl⟩
  clear HR
  go_wp2_with fail
  refine HC.out.mono ?_
  rintro out w2 ⟨ao, cap, rfl, hO⟩
  have H2 : Hid (Own w0 w2 (Table b m L c :: Row 46 4 (.slice ao len cap) len (ccat C) :: l)) := hO.two
  obtain ⟨mb, w3, gi, ci, q8, q1, qn, hup, q83, w4, hdel, hO4⟩ := HPT.out _ _ hO.two.drew
  have HL2 : Hid (Calls _ _ _ _ _) := HLN.out _ _ hO.two.drew
  have HD : Hid _ := hdel
  have H4 : Hid (Own w0 w4 (TabG b m (ids L) (clm m L) (plc (outr L r)) (c + 1) :: Row 46 4 (.slice ao len cap) len (ccat C) :: l)) := hO4
  clear hO HC HPT HLN hdel hO4
  go_wp2_with fail
  go_region_with (
    go_at_call 210
    refine HL2.out.mono ?_
    rintro e w5 ⟨rfl, rfl⟩)
  all_goals
    clear q8 q1 qn hup HL2 H2
    go_wp2_with (at_delete; refine delete_run rfl _ _ _ _ rfl _ _ rfl rfl HD.out ?_)
    clear HD q83
    go_wp2_with fail
    refine (HDI.out _ _ H4.out).mono ?_
    rintro e w6 ⟨rfl, hO6⟩
    have H6 : Hid (Own w0 w6 (TabG b m (ids (outr L r)) (hcol m L C r 0) (plc (outr L r)) (c + 1) :: Row 46 4 (.slice ao len cap) len (ccat C) :: l)) := hO6
    clear hO6 H4 HDI
    go_wp2
    go_loopw [53] (fun cv wr => ∃ j : Nat, j ≤ len ∧ cv = .int .i64 j ∧ Own w0 wr (TabG b m (ids (outr L r)) (hcol m L C r j) (plc (outr L r)) (c + 1) :: Row 46 4 (.slice ao len cap) len (ccat C) :: l)) (fun cv _ => len - (intOf cv).toNat)
    case atStart => exact ⟨0, Nat.zero_le _, rfl, H6.out⟩
    case round =>
      obtain ⟨j, hj, rfl, hO⟩ := hrel
      have HO : Hid (Own w0 wr (TabG b m (ids (outr L r)) (hcol m L C r j) (plc (outr L r)) (c + 1) :: Row 46 4 (.slice ao len cap) len (ccat C) :: l)) := hO
      clear H6
      by_cases hlt : j < len
      · obtain ⟨q, hq⟩ : ∃ q, C[j]? = some q := ⟨_, List.getElem?_eq_getElem (by rw [HCL.out]; exact hlt)⟩
        obtain ⟨gg, o0, hao, _, c0, c1, c2, c3⟩ := (Own.rcs hO.two HCL.out).at j q hq
        subst hao
        have hq6 : q.k < 6 := chk_k ((lst_ok HLST.out).2 q (List.mem_of_getElem? hq)).2
        obtain ⟨g1, g2⟩ := hcol_at (m := m) (L := L) HLST.out r hq
        have HPU : Hid (∀ w' l', Own w0 w' (TabG b m (ids (outr L r)) (hcol m L C r j) (plc (outr L r)) (c + 1) :: l') → Calls Tryz.prog 242 #[.pointer (some ⟨b, 2 + q.k, none⟩), .int .i64 (r : Int)] w' fun e w'' => e = .returned (.tuple #[]) ∧ Own w0 w'' (TabG b m (ids (outr L r)) (hcol m L C r (j + 1)) (plc (outr L r)) (c + 1) :: l')) := by
          intro w' l' h'
          have := tdrop w0 w' l' b m _ _ _ (c + 1) h' q.k hq6 r n (by rw [g1]; exact HLEN.out _ ((hasK_iff _ _).2 ⟨q, List.mem_of_getElem? hq, rfl⟩)) hrn hn6
          rw [g1, ← g2] at this
          exact this
        have HA : Hid (Own w0 (wr.alloc (.cells #[.int .u8 (q.k : Int), .int .i32 q.a, .int .i32 q.b, .int .i32 q.c] 46)) _) := hO.alloc _
        have hlt' : (j : Int) < (len : Int) := by omega
        have hq6' : (q.k : Int) < 6 := by omega
        clear hq g1 g2 hO
        obtain ⟨qk, qa, qb, qc⟩ := q
        simp only at c0 c1 c2 c3 hq6 hq6' HPU HA
        go_wp2_with fail
        go_region_with (
          go_at_call 242
          refine (HPU.out _ _ HA.out.drew).mono ?_
          rintro e w8 ⟨rfl, hO8⟩
          have H8 : Hid (Own w0 w8 _) := hO8
          clear hO8)
        all_goals
          go_wp2
          go_roundw
          case rel => exact ⟨j + 1, by omega, by go_num, H8.out⟩
          case measure => simp [intOf]; omega
      · have hlt' : ¬ (j : Int) < (len : Int) := by omega
        have hjl : j = len := by omega
        subst hjl
        clear hO
        go_wp2
        go_ret2
        exact ⟨_, _, rfl, (HEND.out _ _ HO.out).two⟩
end
end Go.Proofs.YtflmgilmbppieaaGreatDoor
