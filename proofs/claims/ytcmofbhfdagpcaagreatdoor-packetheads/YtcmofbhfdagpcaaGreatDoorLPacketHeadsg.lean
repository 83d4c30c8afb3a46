/-
  What has no entities is short, whoever sends it, whenever: at most 22 bytes; and its head is all of it: PacketHeads returns true, whatever its argument, where the two tables (of the sum and of the components) lie as the program's text lays them, and changes nothing that was there.
-/
import Derived.Test.YtcmofbhfdagpcaaGreatDoorGdg
import Derived.OpenShut
import Derived.SevenTiedAt
import Derived.Deep.DeepHandedRow
namespace Go.Proofs.YtcmofbhfdagpcaaGreatDoor
open Go.ChangeShapes Go.WideShapes Go.ChangeAt Go.RowKit
set_option linter.unusedVariables false
set_option maxRecDepth 100000

theorem grp_8 (v : Nat) (h : v < 4294967296) : grp v ≤ 8 := by
  have := Lib.bitLen_le v 32 (by decide) h
  unfold grp
  omega
/-- a packet of nobody is short -/
theorem short0 {k c e t s : Nat} (h : Right k c e t s) : nb (headB k c e t s ++ cont0 k).length ≤ 18 := by
  have h1 := grp_8 e h.e32
  have h2 := grp_8 (t - s - 1) (by have := h.t32; omega)
  have l0 := length_var0
  have h3 : (headB k c e t s ++ cont0 k).length ≤ 134 := by
    unfold headB cont0
    simp only [List.length_append, length_bitsN, length_var, wid15, wid015]
    split <;> split <;> split <;> (try split) <;> simp only [List.length_append, length_bitsN, length_var, l0, List.length_nil] <;> (try rw [length_var] at l0) <;> omega
  unfold nb
  omega
set_option maxHeartbeats 1000000 in
theorem content_full0 (w0 w : World) (ht : Tab w0) (l : List Thing) (p b : Nat) (L : List Bool) (wv : Value) (h : Own w0 w (penC p b :: WrT b L :: l)) (hl : L.length ≤ 1000) :
    Calls Tryz.prog 13 #[.pointer (some ⟨p, 0, none⟩), .int .u8 1, wv, .slice none 0 0] w fun e w' => e = .returned (.int .i64 0) ∧ Own w0 w' (penC p b :: WrT b (L ++ var 0) :: l) := by
  have HF : Hid (Calls Tryz.prog 28 #[.slice none 0 0] w fun e w' => e = .returned (.int .i64 0) ∧ Fr Nobody w w') := form_any w (ht.quiet h.fr) none 0 0 [] (EntsAt.nil _ _) rfl (fun x hx => by cases hx) (by decide)
  have HP : Hid (∀ Z, Own w0 Z (penC p b :: WrT b L :: l) → Calls Tryz.prog 29 #[.pointer (some ⟨p, 0, none⟩), .slice none 0 0] Z fun e w' => e = .returned (.tuple #[]) ∧ Own w0 w' (penC p b :: WrT b (L ++ var 0) :: l)) := fun Z hZ => pents0 w0 Z l p b L none 0 hZ (by omega)
  have H : Hid (Own w0 w (penC p b :: WrT b L :: l)) := h
  have z0 : ((0 : Int) != 0) = false := rfl
  clear h hl ht
  go_enter Tryz.func13, Tryz.ntmps13
  go_wp2_with fail
  refine HF.out.mono ?_
  rintro e w1 ⟨rfl, hf1⟩
  have HP1 : Hid (Calls _ _ _ _ _) := HP.out w1 (H.out.quiet hf1)
  clear hf1 HF HP H
  go_wp2_with fail
  refine HP1.out.mono ?_
  rintro e w2 ⟨rfl, h2⟩
  have H2 : Hid (Own w0 w2 _) := h2
  clear h2 HP1
  go_wp2
  go_ret
  exact ⟨rfl, H2.out⟩
theorem content0 (w0 w : World) (ht : Tab w0) (l : List Thing) (p b k : Nat) (L : List Bool) (h : Own w0 w (penC p b :: WrT b L :: l)) (hl : L.length ≤ 1000) :
    Calls Tryz.prog 13 #[.pointer (some ⟨p, 0, none⟩), .int .u8 (k : Int), .slice none 0 0, .slice none 0 0] w fun e w' => e = .returned (.int .i64 0) ∧ Own w0 w' (penC p b :: WrT b (L ++ cont0 k) :: l) := by
  unfold cont0
  by_cases k1 : k = 1
  · subst k1
    rw [if_pos rfl]
    exact content_full0 w0 w ht l p b L _ h hl
  · rw [if_neg k1]
    by_cases k2 : k = 2
    · subst k2
      rw [if_pos rfl]
      have hc := content_same w0 w ht l p b L h none none 0 0 0 0 [] [] (fun w' hw' => ⟨EntsAt.nil _ _, EntsAt.nil _ _⟩) rfl rfl (Nat.le_refl _) (Nat.le_refl _) (by decide) (by decide) (fun x hx => by cases hx) (fun x hx => by cases hx) (by decide) (by decide) rfl rfl (by omega)
      rw [List.append_assoc, List.append_assoc] at hc
      exact hc
    · rw [if_neg k2, List.append_nil]
      exact content_no w0 w _ p k _ none 0 h k1 k2
theorem pseal0 (w0 w : World) (htb : Tab w0) (htf : Tabf w0) (l : List Thing) (h : Own w0 w l) (k c e t s : Nat) (hR : Right k c e t s) :
    Calls Tryz.prog 5 #[.agg (hvs k c e t s), .slice none 0 0, .slice none 0 0] w fun x w' => ∃ g cp, x = .returned (.tuple #[.slice (some ⟨g, 0, none⟩) (nb (headB k c e t s ++ cont0 k).length + 4) cp, .int .i64 0]) ∧ Own w0 w' (Row 5 1 (.slice (some ⟨g, 0, none⟩) (nb (headB k c e t s ++ cont0 k).length + 4) cp) (nb (headB k c e t s ++ cont0 k).length + 4) (vrow (frm (pack (headB k c e t s ++ cont0 k)))) :: l) := by
  have hhl := headB_le k c e t s hR.e32 hR.t32
  have hs := short0 hR
  unfold nb at hs
  rw [List.length_append] at hs
  refine pseal_ok w0 w htf l h k c e t s hR _ _ (cont0 k) ?_ (by omega) (fun w' p b X hw => content0 w0 w' htb _ p b k _ hw (by omega))
  unfold headB
  simp only [List.length_append, length_bitsN, wid15]
  omega
set_option maxHeartbeats 1000000 in
theorem pseal_bad (w0 w : World) (l : List Thing) (h : Own w0 w l) (k c e t s : Nat) (hI : HIn k c e t s) (hc : hchk k c e t s ≠ 0) (wv nv : Value) :
    Calls Tryz.prog 5 #[.agg (hvs k c e t s), wv, nv] w fun x w' => x = .returned (.tuple #[.slice none 0 0, .int .i64 ((hchk k c e t s : Nat) : Int)]) ∧ Own w0 w' l := by
  have hB := h.allocC (hvs k c e t s) 24
  have HCH : Hid (Calls _ _ _ _ _) := hcheck_any (w.alloc (.cells (hvs k c e t s) 24)) k c e t s hI
  have HB : Hid (Own w0 _ _) := hB
  have hcl : hchk k c e t s < 4294967296 := by
    unfold hchk
    split
    · decide
    · split <;> decide
  have q0 := hB.cell 0
  have q1 := hB.cell 1
  have q2 := hB.cell 2
  have q3 := hB.cell 3
  have q4 := hB.cell 4
  simp [hvs] at q0 q1 q2 q3 q4
  generalize hchk k c e t s = hcd at *
  have z0 : ((hcd : Int) != 0) = true := by simpa using hc
  unfold hvs at HCH ⊢
  clear h hB hI hc
  go_enter Tryz.func5, Tryz.ntmps5
  go_wp2_with fail
  refine HCH.out.mono ?_
  rintro x w1 ⟨rfl, hf1⟩
  have H5 : Hid (Own w0 w1 l) := (HB.out.quiet hf1).tail
  clear hf1 HCH HB q0 q1 q2 q3 q4
  go_wp2
  go_ret2
  exact ⟨rfl, H5.out⟩
set_option maxHeartbeats 4000000 in
theorem packetHeads_fr (w : World) (ht : Tab w) (htf : Tabf w) (k c e t s : Nat) (hI : HIn k c e t s) :
    Calls Tryz.prog 3 #[.agg #[.int .u8 (k : Int), .int .u8 (c : Int), .int .u32 (e : Int), .int .u32 (t : Int), .int .u32 (s : Int)]] w fun x w' => x = .returned (.bool true) ∧ Fr Nobody w w' := by
  have hS := (Own.start w).allocC #[.int .u8 (k : Int), .int .u8 (c : Int), .int .u32 (e : Int), .int .u32 (t : Int), .int .u32 (s : Int)] 24
  have HAW : Hid (Calls _ _ _ _ _) := awake20 (w.alloc (.cells #[.int .u8 (k : Int), .int .u8 (c : Int), .int .u32 (e : Int), .int .u32 (t : Int), .int .u32 (s : Int)] 24)) (htf.quiet hS.fr)
  have HT : Hid (Tab w ∧ Tabf w) := ⟨ht, htf⟩
  have HI : Hid (HIn k c e t s) := hI
  have HS : Hid (Own w _ _) := hS
  clear ht htf hI hS
  go_enter Tryz.func3, Tryz.ntmps3
  go_wp2_with fail
  refine HAW.out.mono ?_
  rintro x w1 ⟨rfl, hf1⟩
  have h1 := HS.out.quiet hf1
  clear hf1 HAW HS
  generalize w.heap.size = ba at *
  have p0 := h1.cell 0
  have p1 := h1.cell 1
  have p2 := h1.cell 2
  have p3 := h1.cell 3
  have p4 := h1.cell 4
  simp at p0 p1 p2 p3 p4
  have H1 : Hid (Own w w1 _) := h1
  clear h1
  by_cases hc : hchk k c e t s = 0
  · have hR := right_of HI.out hc
    have HR : Hid (Right k c e t s) := hR
    have hsh := short0 hR
    have HSE : Hid (Calls Tryz.prog 5 #[.agg #[.int .u8 (k : Int), .int .u8 (c : Int), .int .u32 (e : Int), .int .u32 (t : Int), .int .u32 (s : Int)], .slice none 0 0, .slice none 0 0] _ _) := pseal0 w w1 HT.out.1 HT.out.2 _ H1.out k c e t s hR
    obtain ⟨L, hL⟩ : ∃ L, L = headB k c e t s ++ cont0 k := ⟨_, rfl⟩
    rw [← hL] at HSE hsh
    obtain ⟨d, hd⟩ : ∃ d, d = nb L.length := ⟨_, rfl⟩
    rw [← hd] at HSE hsh
    have HL : Hid (L = headB k c e t s ++ cont0 k ∧ nb L.length = d) := ⟨hL, hd.symm⟩
    have HFL : Hid ((frm (pack L)).length = d + 4) := by show _ = _; rw [length_frm, pack_len, ← hd]
    have z0 : ((0 : Int) != 0) = false := rfl
    clear hc hR hL hd H1
    go_wp2_with fail
    refine HSE.out.mono ?_
    rintro x w2 ⟨g, cp, rfl, h2⟩
    have HOP : Hid (Calls _ _ _ _ _) := popen0 w w2 HT.out.1 HT.out.2 _ h2 (some ⟨g, 0, none⟩) cp d L k c e t s HR.out HL.out.1 HL.out.2 (by omega) (fun w' hw => In.of_row hw.row HFL.out (frm_byte _ (pack_byte L)))
    clear h2 HSE p0 p1 p2 p3 p4
    go_wp2_with fail
    refine HOP.out.mono ?_
    rintro x w3 ⟨ao, cap, rfl, h3⟩
    have h4 := h3.allocC #[.int .u8 (k : Int), .int .u8 (c : Int), .int .u32 (e : Int), .int .u32 (t : Int), .int .u32 (s : Int)] 24
    have p0 := h4.three.cell 0
    have p1 := h4.three.cell 1
    have p2 := h4.three.cell 2
    have p3 := h4.three.cell 3
    have p4 := h4.three.cell 4
    simp at p0 p1 p2 p3 p4
    have HF : Hid (Fr Nobody w _) := h4.fr
    have l1 : ((d : Int) + 4) ≤ 22 := by omega
    have e0 : ((k : Int) == (k : Int)) = true := by simp
    have e1 : ((c : Int) == (c : Int)) = true := by simp
    have e2 : ((e : Int) == (e : Int)) = true := by simp
    have e3 : ((t : Int) == (t : Int)) = true := by simp
    have e4 : ((s : Int) == (s : Int)) = true := by simp
    clear h3 h4 HOP hsh
    go_wp2
    go_ret
    exact ⟨rfl, HF.out⟩
  · have HSE : Hid (Calls Tryz.prog 5 #[.agg #[.int .u8 (k : Int), .int .u8 (c : Int), .int .u32 (e : Int), .int .u32 (t : Int), .int .u32 (s : Int)], .slice none 0 0, .slice none 0 0] _ _) := pseal_bad w w1 _ H1.out k c e t s HI.out hc (.slice none 0 0) (.slice none 0 0)
    have HRC : Hid (∀ W, Calls Tryz.prog 6 #[.agg #[.int .u8 (k : Int), .int .u8 (c : Int), .int .u32 (e : Int), .int .u32 (t : Int), .int .u32 (s : Int)]] W fun x w' => x = .returned (.int .i64 ((hchk k c e t s : Nat) : Int)) ∧ Fr Nobody W w') := fun W => hrcheck_any W k c e t s HI.out
    generalize hchk k c e t s = hcd at *
    have z0 : ((hcd : Int) != 0) = true := by simpa using hc
    have z1 : ((hcd : Int) == (hcd : Int)) = true := by simp
    clear hc H1
    go_wp2_with fail
    refine HSE.out.mono ?_
    rintro x w2 ⟨rfl, h2⟩
    have u0 := h2.cell 0
    have u1 := h2.cell 1
    have u2 := h2.cell 2
    have u3 := h2.cell 3
    have u4 := h2.cell 4
    simp at u0 u1 u2 u3 u4
    have HF : Hid (Fr Nobody w w2) := h2.fr
    clear h2 HSE p0 p1 p2 p3 p4
    go_wp2_with fail
    refine (HRC.out _).mono ?_
    rintro x w3 ⟨rfl, hf3⟩
    have HF3 : Hid (Fr Nobody w w3) := HF.out.trans hf3
    clear hf3 HRC HF u0 u1 u2 u3 u4
    go_wp2
    go_ret
    exact ⟨rfl, HF3.out⟩
theorem packetHeads_walk (w : World) (ht : Tab w ∧ Tabf w) (k0 c0 e0 t0 s0 : Int) (w0 : HdOk k0 c0 e0 t0 s0) :
    Calls Tryz.prog 3 #[.agg (hdv k0 c0 e0 t0 s0)] w fun e w' => e = .returned (.bool true) ∧ Below w.heap.size w w' := by
  obtain ⟨_, _, _, _, _, h1, i1⟩ := w0.nats
  rw [h1]
  refine (packetHeads_fr w ht.1 ht.2 _ _ _ _ _ i1).mono ?_
  rintro e w' ⟨rfl, hf⟩
  exact ⟨rfl, hf.below (Nat.le_refl _) (fun _ _ h => h)⟩
theorem packetHeads_lifted (os : Os) (started : os.Started) (H : Type) (enc : TypeId × Value → H) :
    ReturnsInHanded {} Tryz.checked os 3 .any (fun w args => (Rows.packetHeadsSpec.pre enc Tryz.prog Tryz.f3 [] false w args ∧ laidMetH Tryz.prog laid1 w) ∧ sizedMet enc Tryz.prog Tryz.f3 (OpenSpec.ofChange Rows.packetHeadsSpec) false w args) (Rows.packetHeadsSpec.post enc Tryz.prog Tryz.f3 false true false false) := by
  refine returnsInHanded_of_change_and (C := Tryz.checked) (X := fun w _ => laidMetH Tryz.prog laid1 w) (fun _ _ _ hh h => h.of_heap hh) own started (by kernel_rfl) Tryz.func3
    (ChangeSpec.witness_shaped (enc := enc) (C := Tryz.checked) (os := os) (X := fun w _ => laidMetH Tryz.prog laid1 w) false (World.doorLaid Tryz.prog 400 os) #[.agg #[.int .u8 0, .int .u8 0, .int .u32 0, .int .u32 0, .int .u32 0]] 8 rfl (World.shaped_of_RefB (by kernel_rfl) (by kernel_rfl)) (by kernel_rfl) (by kernel_rfl) (by kernel_rfl) (door_met os _)) ?_
  intro W base args ds gs before hval0 hW _ _ hL _
  have hval : ∀ (j : Nat) t v, Tryz.f3.params[j]? = some t → args[j]? = some v → Value.okWide Tryz.prog W .any base t v := hval0
  have hW' := hW
  obtain ⟨p, q, hA0, hV, rfl, hfz, hnd⟩ := hW
  have hA : DataW.TrodAll enc Tryz.prog W 0 (fun _ => true) true Tryz.f3.params.toList args.toList ds p := hA0
  rw [Tryz.params3] at hA hval
  obtain ⟨v0, vs0, d0, ds0, p0, q0, hargs, rfl, rfl, h0, r0⟩ := trodAll_cons hA
  obtain ⟨rfl, rfl, rfl⟩ := trodAll_nil r0
  obtain rfl : args = #[v0] := by cases args; simp_all
  obtain ⟨rfl, rfl⟩ := trodVars_none hV
  obtain ⟨hk0, hc0, he0, ht0, hs0, rfl, rfl, rfl, w0⟩ := open_head (hval 0 24 v0 rfl rfl) h0
  clear hA0 hval0
  refine (packetHeads_walk W ⟨of_laid hL, of_laidf hL⟩ hk0 hc0 he0 ht0 hs0 w0).mono fun e W' ⟨he, bel⟩ => ?_
  subst he
  exact ⟨_, rfl, _, _, _, [], _, [], hW', trodAll_mk1 (shut_bool Tryz.underlying4 _), (trodAll_cons_mk (shut_head w0) trodAll_mk0), rfl, bel.frame _, fun h => by cases h⟩

theorem packetHeads_row : Rows.PacketHeadsSaid :=
  OpenClaim.holds_of_wide 3 Tryz.f3 rfl rfl rfl rfl rfl rfl rfl ⟨rfl, rfl, rfl, rfl, rfl⟩ rfl rfl rfl rfl rfl (by kernel_rfl) Tryz.func3 (by kernel_rfl)
    (of_decide_eq_true (by kernel_rfl)) (by unfold Func.isWrapper; first | (rw [if_pos (by decide +kernel)]; kernel_rfl) | (rw [if_neg (by decide +kernel)]; exact ⟨rfl, rfl⟩))
    (fun os started H enc _ => packetHeads_lifted os started H enc)

theorem packetHeads_holds : Rows.PacketHeadsCardSaid :=
  Claim7.holds_tied_plain_at .later [] [.data, .data] true (true, "e5d10a3a673f84dfb4d5c42d592e184a73d008bb404dc9d37c2f8b8fd11d2dbd") true
    packetHeads_row (fun _ h => by cases h) (by kernel_rfl) (fun _ h => by cases h) packetHeads_row_tie rfl ⟨rfl, rfl⟩ (by kernel_rfl) rfl
    (fun f fn hf hfn => by
      obtain rfl : f = 3 := Option.some.inj ((show Tryz.prog.funcNamed "pinnace/pinnacelaw20.PacketHeads" = some 3 by kernel_rfl).symm.trans hf) |>.symm
      obtain rfl : fn = Tryz.f3 := (Option.some.inj (Tryz.func3.symm.trans hfn)).symm
      exact ⟨by kernel_rfl, fun j t ht => by
        rw [Tryz.params3] at ht
        have hm : t ∈ [24] := by simpa using Array.mem_of_getElem? ht
        have hall : ([24].all fun u => !Tryz.prog.wantsStandIn u) = true := by kernel_rfl
        exact (show Tryz.prog.wantsStandIn t = false by simpa using List.all_eq_true.1 hall t hm)⟩)
    (by kernel_rfl)

end Go.Proofs.YtcmofbhfdagpcaaGreatDoor
