/-
  Package table: IDs, comps, Get, At.
-/
import Derived.Test.YtflmgilmbppieaaGreatDoorUc
import Derived.Deep.RegionWith
namespace Go.Proofs.YtflmgilmbppieaaGreatDoor
open Go.RowKit Go.Maps
set_option linter.unusedVariables false
set_option maxRecDepth 100000

/-- append of all of a slice that lies elsewhere -/
theorem append_all {P : Program} {w0 w : World} {l : List Thing} {ops : Array Oper} {rest : List Oper} {o : Oper} {a : Act} {Q : Exit → Act → World → Prop} (hgd : o.guard = none) (sx x : Operand) (t : TypeId)
    (ho : o.op = .call { callee := .builtin .append, args := #[sx, x], argTypes := #[t, t] })
    (e : TypeId) (i : TypeInfo) (z : Value) (size bytes : Nat) (ht : P.underlying t = some (.slice e)) (hi : P.info? e = some i) (hz : i.zero = some z)
    (hsize : i.size = size) (hby : i.bytes = bytes) (hzs : z.cells.size = size) (hsz : 0 < size)
    (v : Value) (n : Nat) (xs : List Value) (hs : a.eval sx = v) (xa : Option Addr) (m xc : Nat) (ys : List Value) (hx : a.eval x = .slice xa m xc) (hown : Own w0 w (Row e size v n xs :: l)) (hr : w.ownsRow 0 e size (.slice xa m xc) m ys) (h1 : ∀ u ∈ ys, u.oneCell' = true)
    (h63 : n + m ≤ maxLen) (hbytes : (n + m) * bytes ≤ 140737488355328)
    (h : ∀ ao cap w', Own w0 w' (Row e size (.slice ao (n + m) cap) (n + m) (xs ++ ys) :: l) → w.heap.size ≤ w'.heap.size → wpList P ops Q rest (a.put o.dst (.slice ao (n + m) cap)) w') : wpList P ops Q (o :: rest) a w := by
  rcases Nat.eq_zero_or_pos m with h0 | h0
  · subst h0
    have hy : ys = [] := List.eq_nil_of_length_eq_zero (by rw [hr.1]; simp)
    subst hy
    obtain ⟨va, vc, rfl⟩ := row_any hown.row
    refine wpList_plain hgd fun K hK' => ?_
    have hr := run_append_empty (P := P) w 0 t o.type e i size ht hi _ n xs hown.row xa xc
    unfold Oper.wp
    simp [execOp, ho, resolve, invoke, builtin, hs, hx, hr, Result.andThen]
    exact hK' _ _ (by simpa using h va vc w (by simpa using hown) (Nat.le_refl _))
  · obtain ⟨g, cap, hv, _⟩ := row_shape hr h0
    have hxa := (Value.slice.inj hv).1
    subst hxa
    refine append_own hgd sx x t ho e i z size bytes ht hi hz hsize hby hzs hsz v n xs hs hown ⟨g, 0, none⟩ m xc ys hx hr.1 (fun j u hu => by
      rw [addr_add, Nat.zero_add, hr.cellAt j (by rw [← hr.1]; exact (List.getElem?_eq_some_iff.1 hu).1)]; exact hu) h1 h0 h63 hbytes ?_
    intro g' cap' w' hO hsz
    exact h _ _ w' hO hsz

section
variable (w0 w : World) (l : List Thing) (b m : Nat) (L : List Ent) (c : Nat)

def pre (m : Nat) (C : List Cp) (k : Nat) : List Cp := ((List.range k).filter (bt m)).map (fun j => mkc j (fv C j))
theorem pre_succ (m : Nat) (C : List Cp) (k : Nat) : pre m C (k + 1) = if bt m k then pre m C k ++ [mkc k (fv C k)] else pre m C k := by
  unfold pre
  rw [List.range_succ, List.filter_append]
  cases hb : bt m k <;> simp [List.filter, hb]
theorem pre_len (m : Nat) (C : List Cp) (k : Nat) : (pre m C k).length ≤ k := by
  unfold pre; rw [List.length_map]; exact Nat.le_trans (List.length_filter_le _ _) (by simp)

set_option maxHeartbeats 2000000 in
theorem tcompsX (xx : Value × (Nat → Value) × Nat) (h : Own w0 w (TabX b m (ids L) (clm m L) (plc L) c xx :: l)) (hT : TOk m L) (r : Nat) (e : Ent) (he : L[r]? = some e) :
    Calls Tryz.prog 222 #[.pointer (some ⟨b, 0, none⟩), .int .i64 (r : Int)] w fun out w' => ∃ ao cap, out = .returned (.slice ao e.2.length cap) ∧ Own w0 w' (Row 46 4 (.slice ao e.2.length cap) e.2.length (ccat e.2) :: TabX b m (ids L) (clm m L) (plc L) c xx :: l) := by
  obtain ⟨i0, hi, hz0, hz1, hz2⟩ := info_parts Tryz.infoComp
  have hm := hT.m64
  have HX : Hid (∀ k, k < 6 → bt m k = true → (clm m L k)[r]? = some (fv e.2 k)) := by
    intro k hk hb
    unfold clm; rw [if_pos hb, List.getElem?_map, he]; rfl
  have HE : Hid (pre m e.2 6 = e.2) := comps_of (hT.ok e (List.mem_of_getElem? he)).1 (hT.ok e (List.mem_of_getElem? he)).2
  have H : Hid (Own w0 w (TabX b m (ids L) (clm m L) (plc L) c xx :: l)) := h
  generalize e.2 = C at *
  clear h he hT
  go_enter Tryz.func222, Tryz.ntmps222
  go_wp2
  go_loopw [5, 7] (fun lv cv wr => ∃ k : Nat, k ≤ 6 ∧ cv = .int .u8 k ∧ ∃ ao cap n, n = (pre m C k).length ∧ lv = .slice ao n cap ∧ Own w0 wr (Row 46 4 (.slice ao n cap) n (ccat (pre m C k)) :: TabX b m (ids L) (clm m L) (plc L) c xx :: l)) (fun _ cv _ => 6 - (intOf cv).toNat)
  case atStart => exact ⟨0, by decide, rfl, none, 0, 0, rfl, rfl, H.out.nilRow _ _⟩
  case round =>
    obtain ⟨k, hk, rfl, ao, cap, n, hn, rfl, hO⟩ := hrel
    have HO : Hid (Own w0 wr (Row 46 4 (.slice ao n cap) n (ccat (pre m C k)) :: TabX b m (ids L) (clm m L) (plc L) c xx :: l)) := hO
    have hn6 : n ≤ 6 := by rw [hn]; exact Nat.le_trans (pre_len m C k) hk
    have HN : Hid (n = (pre m C k).length) := hn
    clear hO H hn
    by_cases hk6 : k < 6
    · have hk6' : (k : Int) < 6 := by omega
      cases hb : bt m k with
      | true =>
        obtain ⟨x, hx⟩ : ∃ x, x = fv C k := ⟨_, rfl⟩
        have HS : Hid (pre m C (k + 1) = pre m C k ++ [mkc k x]) := by show _ = _; rw [pre_succ, if_pos hb, hx]
        have HC : Hid (∀ w' l', Own w0 w' (TabX b m (ids L) (clm m L) (plc L) c xx :: l') → Calls Tryz.prog 208 #[.pointer (some ⟨b, 0, none⟩), .int .i64 (r : Int), .int .u8 (k : Int)] w' fun e w'' => e = .returned (.agg #[.int .u8 (k : Int), .int .i32 x.1, .int .i32 x.2.1, .int .i32 x.2.2]) ∧ Own w0 w'' (TabX b m (ids L) (clm m L) (plc L) c xx :: l')) :=
          fun w' l' h' => tcomp w0 w' l' b m _ _ _ c xx h' k hk6 r x (by rw [HX.out k hk6 hb, hx])
        have HA : Hid (∀ w', Own w0 w' (TabX b m (ids L) (clm m L) (plc L) c xx :: Row 46 4 (.slice ao n cap) n (ccat (pre m C k)) :: l) → Calls Tryz.prog 207 #[.pointer (some ⟨b, 0, none⟩), .int .u8 (k : Int)] w' fun e w'' => e = .returned (.bool true) ∧ w'' = w') :=
          fun w' h' => by have := thas w0 w' _ b m _ _ _ c (TabX.tab h') k (by omega) hm; rw [hb] at this; exact this
        clear hx hb
        obtain ⟨x0, x1, x2⟩ := x
        simp only at HC
        go_wp2_with fail
        refine (HA.out _ HO.out.two).mono ?_
        rintro e w2 ⟨rfl, rfl⟩
        go_wp2_with fail
        refine (HC.out _ _ HO.out.two).mono ?_
        rintro e w3 ⟨rfl, hO3⟩
        have H3 : Hid (Own w0 w3 (Row 46 4 (.slice ao n cap) n (ccat (pre m C k)) :: TabX b m (ids L) (clm m L) (plc L) c xx :: l)) := hO3.two
        clear hO3 HO HA HC
        go_wp2_with (at_builtin; refine append1_own rfl _ _ 39 rfl 46 i0 _ 4 16 Tryz.underlying39 hi hz0 hz1 hz2 rfl (by decide) _ _ _ rfl H3.out _ #[.int .u8 (k : Int), .int .i32 x0, .int .i32 x1, .int .i32 x2] (by simp) rfl rfl (by intro u hu; simp at hu; rcases hu with rfl | rfl | rfl | rfl <;> rfl) (by unfold maxLen; omega) (by omega) ?_)
        intro g4 c4 w4 hO4 hsz
        have H4 : Hid (Own w0 w4 (Row 46 4 (.slice (some ⟨g4, 0, none⟩) (n + 1) c4) (n + 1) (ccat (pre m C (k + 1))) :: TabX b m (ids L) (clm m L) (plc L) c xx :: l)) := by
          show Own _ _ _
          rw [HS.out, ccat, cat_append]
          exact hO4
        have HL : Hid (n + 1 = (pre m C (k + 1)).length) := by show _ = _; rw [HS.out, List.length_append, ← HN.out]; rfl
        clear hO4 H3 hsz
        go_wp2
        go_roundw
        case rel => exact ⟨k + 1, by omega, by go_num, _, _, _, HL.out, rfl, H4.out⟩
        case measure => simp [intOf]; omega
      | false =>
        have HS : Hid (pre m C (k + 1) = pre m C k) := by show _ = _; rw [pre_succ, hb]; rfl
        have HA : Hid (∀ w', Own w0 w' (TabX b m (ids L) (clm m L) (plc L) c xx :: Row 46 4 (.slice ao n cap) n (ccat (pre m C k)) :: l) → Calls Tryz.prog 207 #[.pointer (some ⟨b, 0, none⟩), .int .u8 (k : Int)] w' fun e w'' => e = .returned (.bool false) ∧ w'' = w') :=
          fun w' h' => by have := thas w0 w' _ b m _ _ _ c (TabX.tab h') k (by omega) hm; rw [hb] at this; exact this
        clear hb
        go_wp2_with fail
        refine (HA.out _ HO.out.two).mono ?_
        rintro e w2 ⟨rfl, rfl⟩
        clear HA
        go_wp2
        go_roundw
        case rel => exact ⟨k + 1, by omega, by go_num, _, _, n, by rw [HS.out]; exact HN.out, rfl, by rw [HS.out]; exact HO.out⟩
        case measure => simp [intOf]; omega
    · have hk6' : ¬ (k : Int) < 6 := by omega
      have hk66 : k = 6 := by omega
      subst hk66
      go_wp2
      go_ret
      rw [HE.out] at HO HN
      rw [← HN.out]
      exact ⟨_, _, rfl, HO.out⟩
theorem tcomps (h : Own w0 w (Table b m L c :: l)) (hT : TOk m L) (r : Nat) (e : Ent) (he : L[r]? = some e) :
    Calls Tryz.prog 222 #[.pointer (some ⟨b, 0, none⟩), .int .i64 (r : Int)] w fun out w' => ∃ ao cap, out = .returned (.slice ao e.2.length cap) ∧ Own w0 w' (Row 46 4 (.slice ao e.2.length cap) e.2.length (ccat e.2) :: Table b m L c :: l) := by
  obtain ⟨xx, h⟩ := TabX.of h
  refine (tcompsX w0 w l b m L c xx h hT r e he).mono ?_
  rintro out w' ⟨ao, cap, h1, h2⟩
  exact ⟨ao, cap, h1, (TabX.tab h2.two).two⟩
end
end Go.Proofs.YtflmgilmbppieaaGreatDoor
