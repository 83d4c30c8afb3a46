/-
  New, Len, Room, All of boxes; boxes that may be nil.
-/
import Derived.Test.YtijhbgkfffnioaaMb
import Derived.Test.YtijhbgkfffnioaaYx
namespace Go.Proofs.Ytijhbgkfffnioaa
open Go.RowKit Go.Conc
set_option linter.unusedVariables false

theorem Try.infoI64 : (Try.prog.info? 2).map (fun i => (i.zero, i.size, i.bytes)) = some (some (.int .i64 0), 1, 8) := by kernel_rfl
theorem mk_chan (w : World) (n : Nat) (hn : n ≤ 256) : (Instr.makeChan 87 (.int .i64 (n : Int))).run Try.prog w = .ok (.chan (some w.heap.size)) (w.alloc (.chan n #[] false 0 0 false)) := by
  obtain ⟨i0, hi, hz0, hz1, hz2⟩ := info_parts Try.infoI64
  simpa using run_makeChan (P := Try.prog) (w := w) Try.underlying87 hi .i64 n (by omega) (by rw [hz2]; omega)
theorem length_lrow (L : List Int) : (lrow L).length = L.length := by simp [lrow]
theorem lrow_append (L M : List Int) : lrow (L ++ M) = lrow L ++ lrow M := by simp [lrow]
theorem one_lrow (L : List Int) : ∀ u ∈ lrow L, u.oneCell' = true := by intro u hu; rw [lrow, List.mem_map] at hu; obtain ⟨x, _, rfl⟩ := hu; rfl
theorem getElem?_lrow (L : List Int) (i : Nat) : (lrow L)[i]? = (L[i]?).map (Value.int .i64) := by simp [lrow]

section
variable (w0 w : World) (l : List Thing) (b n : Nat) (L : List Int)
set_option maxHeartbeats 400000 in
set_option maxRecDepth 100000 in
theorem mnew (h : Own w0 w l) (h1 : 1 ≤ n) (h2 : n ≤ 256) :
    Calls Try.prog 15 #[.int .i64 (n : Int)] w fun e w' => ∃ b, e = .returned (.tuple #[.pointer (some ⟨b, 0, none⟩), .int .i64 0]) ∧ Own w0 w' (Bx b n [] :: l) := by
  have H : Hid (Own w0 w l) := h
  have hmk := mk_chan w n h2
  clear h
  go_enter Try.func15, Try.ntmps15
  go_wp2
  go_ret2
  refine ⟨_, rfl, Own.ex_iff.2 ⟨w.heap.size, ?_⟩⟩
  have k := (H.out.allocChan n).allocC #[.chan (some w.heap.size)] 89
  rw [World.size_alloc] at k
  exact k
set_option maxHeartbeats 400000 in
theorem mnew_no (w : World) (k : Int) (h : k < 1 ∨ 256 < k) : Calls Try.prog 15 #[.int .i64 k] w fun e w' => e = .returned (.tuple #[.pointer none, .int .i64 1]) ∧ w' = w := by
  by_cases c : k < 1
  · go_enter Try.func15, Try.ntmps15
    go_wp2
    go_ret2
    exact ⟨rfl, rfl⟩
  · have c2 : 256 < k := by omega
    go_enter Try.func15, Try.ntmps15
    go_wp2
    go_ret2
    exact ⟨rfl, rfl⟩
theorem mlen (h : Own w0 w (Bx b n L :: l)) : Calls Try.prog 23 #[.pointer (some ⟨b, 0, none⟩)] w fun e w' => e = .returned (.int .i64 (L.length : Int)) ∧ w' = w := by
  obtain ⟨c, s, r, q0, hc, _⟩ := h.bx
  have hl : ∀ ty, (Builtin.len_ #[87] ty #[.chan (some c)]).run Try.prog w = .ok (.int .i64 (L.length : Int)) w := fun ty => by
    have := run_len_chan (P := Try.prog) 87 ty Try.underlying87 hc
    simpa [lrow, goInt] using this
  clear hc h
  go_enter Try.func23, Try.ntmps23
  go_wp2
  go_ret
  exact ⟨rfl, rfl⟩
theorem mlen_nil (w : World) : Calls Try.prog 23 #[.pointer none] w fun e w' => e = .returned (.int .i64 0) ∧ w' = w := by
  go_enter Try.func23, Try.ntmps23
  go_wp2
  go_ret
  exact ⟨rfl, rfl⟩
set_option maxHeartbeats 400000 in
theorem mroom (h : Own w0 w (Bx b n L :: l)) (h1 : L.length ≤ n) (h2 : n ≤ 256) : Calls Try.prog 24 #[.pointer (some ⟨b, 0, none⟩)] w fun e w' => e = .returned (.int .i64 ((n : Int) - (L.length : Int))) ∧ Own w0 w' (Bx b n L :: l) := by
  obtain ⟨c, s, r, q0, hc, _⟩ := h.bx
  have hd : ∀ k : Nat, (w.drewN k).heap[c]? = some (.chan n (lrow L).toArray false s r false) := fun k => (((Fr.refl Nobody w).drewN k).block c (Array.getElem?_eq_some_iff.1 hc).1 id).trans hc
  have hl : ∀ (k : Nat) ty, (Builtin.len_ #[87] ty #[.chan (some c)]).run Try.prog (w.drewN k) = .ok (.int .i64 (L.length : Int)) (w.drewN k) := fun k ty => by
    have := run_len_chan (P := Try.prog) 87 ty Try.underlying87 (hd k)
    simpa [lrow, goInt] using this
  have hl2 : ∀ (k : Nat) ty, (Builtin.cap_ #[87] ty #[.chan (some c)]).run Try.prog (w.drewN k) = .ok (.int .i64 (n : Int)) (w.drewN k) := fun k ty => by
    have := run_cap_chan (P := Try.prog) 87 ty Try.underlying87 (hd k)
    simpa [lrow, goInt] using this
  have H : Hid (Own w0 w (Bx b n L :: l)) := h
  clear hc h hd
  generalize L.length = m at *
  go_enter Try.func24, Try.ntmps24
  go_wp2
  go_quiet (fail)
  go_wp2
  go_ret
  exact ⟨ret_int (by omega), H.out.drewN _⟩
theorem mroom_nil (w : World) : Calls Try.prog 24 #[.pointer none] w fun e w' => e = .returned (.int .i64 0) ∧ w' = w := by
  go_enter Try.func24, Try.ntmps24
  go_wp2
  go_ret
  exact ⟨rfl, rfl⟩
theorem mtake (h : Own w0 w (Bx b n L :: l)) : Calls Try.prog 21 #[.pointer (some ⟨b, 0, none⟩)] w fun e w' => e = .returned (.tuple #[.int .i64 (L.headD 0), .bool (!L.isEmpty)]) ∧ Own w0 w' (Bx b n L.tail :: l) := by
  cases L with
  | nil => exact mtake_none w0 w l b n h
  | cons x L => exact mtake_some w0 w l b n L x h
def vlen : Value → Nat
  | .slice _ n _ => n
  | _ => 0
set_option maxHeartbeats 2000000 in
set_option maxRecDepth 100000 in
theorem mall (h : Own w0 w (Bx b n L :: l)) (hL : L.length ≤ 256) :
    Calls Try.prog 19 #[.pointer (some ⟨b, 0, none⟩)] w fun e w' => ∃ ao cap, e = .returned (.slice ao L.length cap) ∧ Own w0 w' (Row 2 1 (.slice ao L.length cap) L.length (lrow L) :: Bx b n [] :: l) := by
  obtain ⟨i0, hi, hz0, hz1, hz2⟩ := info_parts Try.infoI64
  obtain ⟨w1, hmk, hO, hf⟩ := make_own (P := Try.prog) h 52 2 i0 (.int .i64 0) 1 Try.underlying52 hi hz0 hz1 L.length (by rw [hz2]; omega) (by unfold maxLen; omega)
  have HL : Hid (Calls _ _ _ _ _) := mlen w0 w l b n L h
  have H1 : Hid (Own w0 w1 (Row 2 1 (.slice (some ⟨w.heap.size, 0, none⟩) 0 L.length) 0 [] :: Bx b n L :: l)) := hO
  clear h hO hf
  obtain ⟨m, hm⟩ : ∃ m, m = L.length := ⟨_, rfl⟩
  have HM : Hid (m = L.length) := hm
  rw [← hm] at HL hmk H1 ⊢
  have hm2 : m ≤ 256 := by omega
  clear hm hL
  go_enter Try.func19, Try.ntmps19
  go_wp2_with fail
  refine HL.out.mono ?_
  rintro e w' ⟨rfl, rfl⟩
  go_wp2_with fail
  refine (mtake w0 w1 _ b n L H1.out.two).mono ?_
  rintro e w2 ⟨rfl, hO⟩
  have H2 : Hid (Own w0 w2 (Row 2 1 (.slice (some ⟨w'.heap.size, 0, none⟩) 0 m) 0 [] :: Bx b n L.tail :: l)) := hO.two
  clear hO H1 HL hmk
  go_wp2
  go_loopw [3, 4, 5] (fun lv vv okv wr => ∃ k : Nat, k ≤ m ∧ ∃ ao cap, lv = .slice ao k cap ∧ ∃ z : Int, vv = .int .i64 z ∧ (k < m → L[k]? = some z) ∧ okv = .bool (decide (k < m)) ∧ Own w0 wr (Row 2 1 (.slice ao k cap) k (lrow (L.take k)) :: Bx b n (L.drop (k + 1)) :: l)) (fun lv _ _ _ => m - vlen lv)
  case atStart =>
    refine ⟨0, Nat.zero_le _, _, _, rfl, _, rfl, fun hlt => ?_, ?_, ?_⟩
    · rw [HM.out] at hlt
      obtain ⟨x, M, rfl⟩ := List.exists_cons_of_length_pos hlt
      rfl
    · rw [HM.out]; cases L <;> rfl
    · simpa [lrow] using H2.out
  case round =>
    obtain ⟨k, hk, ao, cap, rfl, z, rfl, hz, rfl, hO⟩ := hrel
    by_cases hlt : k < m
    · have hx := hz hlt
      have hlt' : decide (k < m) = true := by simpa using hlt
      have HR : Hid (lrow (L.take (k + 1)) = lrow (L.take k) ++ [.int .i64 z]) := by
        show _ = _
        rw [List.take_add_one, hx]; simp [lrow]
      have HT : Hid ((L.drop (k + 1)).tail = L.drop (k + 1 + 1)) := by show _ = _; simp
      have HH : Hid (k + 1 < m → L[k + 1]? = some ((L.drop (k + 1)).headD 0)) := fun h => by
        rw [HM.out] at h
        rw [List.getElem?_eq_getElem h, List.drop_eq_getElem_cons h]; rfl
      have HE : Hid ((!(L.drop (k + 1)).isEmpty) = decide (k + 1 < m)) := by
        show _ = _
        rw [HM.out, Bool.eq_iff_iff]; simp
      have HO : Hid (Own w0 wr _) := hO
      clear hO hx hz H2
      rw [hlt']
      clear hlt'
      go_wp2_with (at_builtin; refine append1_own rfl _ _ 52 rfl 2 i0 (.int .i64 0) 1 8 Try.underlying52 hi hz0 hz1 hz2 rfl (by decide) _ _ _ rfl HO.out _ #[.int .i64 z] (by simp) rfl rfl (by intro u hu; simp at hu; subst hu; rfl) (by unfold maxLen; omega) (by omega) ?_)
      intro g c3 w3 hO3 hsz3
      have H3 : Hid (Own w0 w3 (Row 2 1 (.slice (some ⟨g, 0, none⟩) (k + 1) c3) (k + 1) (lrow (L.take (k + 1))) :: Bx b n (L.drop (k + 1)) :: l)) := by rw [HR.out]; exact hO3
      clear hO3 HO hsz3
      go_wp2_with fail
      refine (mtake w0 w3 _ b n _ H3.out.two).mono ?_
      rintro e w4 ⟨rfl, hO4⟩
      have H4 : Hid (Own w0 w4 (Row 2 1 (.slice (some ⟨g, 0, none⟩) (k + 1) c3) (k + 1) (lrow (L.take (k + 1))) :: Bx b n (L.drop (k + 1 + 1)) :: l)) := by rw [← HT.out]; exact hO4.two
      clear hO4 H3
      rw [HE.out]
      generalize (L.drop (k + 1)).headD 0 = y at *
      generalize hbb : decide (k + 1 < m) = bb at *
      go_wp2
      go_roundw
      case rel => exact ⟨k + 1, by omega, _, _, rfl, y, rfl, HH.out, by rw [hbb], H4.out⟩
      case measure => simp [vlen]; omega
    · have hkm : k = m := by omega
      subst hkm
      have hlt' : decide (k < k) = false := by simp
      have HR : Hid (Own w0 wr (Row 2 1 (.slice ao k cap) k (lrow L) :: Bx b n [] :: l)) := by
        have e1 : L.take k = L := List.take_of_length_le (by rw [HM.out]; exact Nat.le_refl _)
        have e2 : L.drop (k + 1) = [] := List.drop_eq_nil_of_le (by rw [HM.out]; omega)
        rw [e1, e2] at hO; exact hO
      clear hO hz H2
      rw [hlt']
      go_wp2
      go_ret
      exact ⟨_, _, rfl, HR.out⟩
end
end Go.Proofs.Ytijhbgkfffnioaa
