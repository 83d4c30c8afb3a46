/-
  The document's examples of layer 19.
-/
import Derived.Test.YtkjanpjlpieaoaaDoorQd32
namespace Go.Proofs.YtkjanpjlpieaoaaDoor
open Go.RowKit
set_option linter.unusedVariables false
set_option maxRecDepth 100000

theorem Own.entsRow {w0 w : World} {l : List Thing} {ao : Option Addr} {n cap : Nat} {L : List EnE} {xs : List Value} (h : Own w0 w (Row 43 2 (.slice ao n cap) n xs :: l)) (hn : L.length = n) (hxs : xs = cat EnE.cs L) (hc : ∀ x ∈ L, Cs w x.ao x.C) : EntsAt w ao L := by
  subst hxs
  refine ⟨?_, hc⟩
  have hr := h.row
  rcases Nat.eq_zero_or_pos n with h0 | h0
  · exact .inl (List.eq_nil_of_length_eq_zero (by omega))
  · obtain ⟨g, cp, hv, _⟩ := row_shape hr h0
    refine .inr ⟨g, 0, (Value.slice.inj hv).1, fun i y hy => ?_⟩
    have hva := (Value.slice.inj hv).1
    rw [hva] at hr
    have hi := (List.getElem?_eq_some_iff.1 hy).1
    rw [Nat.zero_add, hr.cellAt _ (by omega), hr.cellAt _ (by omega)]
    exact ⟨cat_at EnE.cs 2 (fun _ => rfl) L i 0 y hy (by decide), cat_at EnE.cs 2 (fun _ => rfl) L i 1 y hy (by decide)⟩
theorem Own.chsRow {w0 w : World} {l : List Thing} {ao : Option Addr} {n cap : Nat} {L : List ChE} {xs : List Value} (h : Own w0 w (Row 51 4 (.slice ao n cap) n xs :: l)) (hn : L.length = n) (hxs : xs = cat ChE.cs L) (hc : ∀ x ∈ L, Cs w x.na x.N ∧ Cs w x.sa x.S) : ChsAt w ao L := by
  subst hxs
  refine ⟨?_, hc⟩
  have hr := h.row
  rcases Nat.eq_zero_or_pos n with h0 | h0
  · exact .inl (List.eq_nil_of_length_eq_zero (by omega))
  · obtain ⟨g, cp, hv, _⟩ := row_shape hr h0
    refine .inr ⟨g, 0, (Value.slice.inj hv).1, fun j x hx => ?_⟩
    have hva := (Value.slice.inj hv).1
    rw [hva] at hr
    have hj := (List.getElem?_eq_some_iff.1 hx).1
    rw [Nat.zero_add, hr.cellAt _ (by omega), hr.cellAt _ (by omega), hr.cellAt _ (by omega), hr.cellAt _ (by omega)]
    exact ⟨cat_at ChE.cs 4 (fun _ => rfl) L j 0 x hx (by decide), cat_at ChE.cs 4 (fun _ => rfl) L j 1 x hx (by decide), cat_at ChE.cs 4 (fun _ => rfl) L j 2 x hx (by decide), cat_at ChE.cs 4 (fun _ => rfl) L j 3 x hx (by decide)⟩
def was19 (b : Nat) : List EnE := [⟨1024, some ⟨b, 0, none⟩, 1, [⟨2, 5, 0, 0⟩]⟩, ⟨1025, none, 0, []⟩]
def now19 (b : Nat) : List EnE := [⟨1025, some ⟨b, 0, none⟩, 1, [⟨4, 0, 0, 0⟩]⟩, ⟨1026, none, 0, []⟩]
def v19 : Dl := ⟨[1024], [(1026, [])], [⟨1025, 0, [⟨4, 0, 0, 0⟩], []⟩]⟩
def gone19 (b : Nat) : DlE := ⟨[1024], some ⟨b, 0, none⟩, 1, [], none, 0, [], none, 0⟩
def want19 (b1 b2 b3 b : Nat) : DlE := ⟨[1024], some ⟨b1, 0, none⟩, 1, [⟨1026, none, 0, []⟩], some ⟨b2, 0, none⟩, 1, [⟨1025, 0, [⟨4, 0, 0, 0⟩], some ⟨b, 0, none⟩, 1, [], none, 0⟩], some ⟨b3, 0, none⟩, 1⟩
theorem dc19 (b c : Nat) : dcode (evs (was19 b)) (evs (now19 c)) = 0 := by kernel_rfl
theorem dl19 (b c : Nat) : dlv (evs (was19 b)) (evs (now19 c)) = v19 := by kernel_rfl
theorem want_v (b1 b2 b3 b : Nat) : (want19 b1 b2 b3 b).v = v19 := rfl
theorem pat19 {b : Nat} {code : Nat} {R : List En} (h : PatR [] (gone19 b).v code R) : code = 4 := by
  rcases h with ⟨h, _⟩ | ⟨_, _, _, h⟩ | ⟨_, h, _⟩
  · exact absurd rfl h
  · have := (btw_sz [] R).1
    rw [h] at this
    have h2 : (1 : Nat) ≤ 0 := this
    omega
  · exact h
theorem cs_nil (w : World) (a : Option Addr) : Cs w a [] := .inl rfl
def l19 (b1 b2 b3 b4 : Nat) : List Thing := [Row 43 2 (.slice (some ⟨b4, 0, none⟩) 2 2) 2 [.int .u32 1025, .slice (some ⟨b1, 0, none⟩) 1 1, .int .u32 1026, .slice none 0 0], Row 43 2 (.slice (some ⟨b3, 0, none⟩) 2 2) 2 [.int .u32 1024, .slice (some ⟨b2, 0, none⟩) 1 1, .int .u32 1025, .slice none 0 0], Row 46 4 (.slice (some ⟨b2, 0, none⟩) 1 1) 1 [.int .u8 2, .int .i32 5, .int .i32 0, .int .i32 0], Row 46 4 (.slice (some ⟨b1, 0, none⟩) 1 1) 1 [.int .u8 4, .int .i32 0, .int .i32 0, .int .i32 0]]
theorem l19_at {w0 w : World} {b1 b2 b3 b4 : Nat} {l : List Thing} (h : Own w0 w (l19 b1 b2 b3 b4 ++ l)) : EntsAt w (some ⟨b3, 0, none⟩) (was19 b2) ∧ EntsAt w (some ⟨b4, 0, none⟩) (now19 b1) ∧ Cs w (some ⟨b1, 0, none⟩) [⟨4, 0, 0, 0⟩] := by
  have h1 : Own w0 w (Row _ 2 _ 2 _ :: Row _ 2 _ 2 _ :: Row _ 4 _ 1 _ :: Row _ 4 _ 1 _ :: l) := h
  have c1 : Cs w (some ⟨b1, 0, none⟩) [⟨4, 0, 0, 0⟩] := Own.rcs5 (L := [⟨4, 0, 0, 0⟩]) h1.tail.tail.tail rfl
  have c2 : Cs w (some ⟨b2, 0, none⟩) [⟨2, 5, 0, 0⟩] := Own.rcs5 (L := [⟨2, 5, 0, 0⟩]) h1.tail.tail rfl
  refine ⟨h1.tail.entsRow (L := was19 b2) rfl rfl (fun x hx => ?_), h1.entsRow (L := now19 b1) rfl rfl (fun x hx => ?_), c1⟩
  · simp [was19] at hx
    rcases hx with rfl | rfl
    · exact c2
    · exact cs_nil _ _
  · simp [now19] at hx
    rcases hx with rfl | rfl
    · exact c1
    · exact cs_nil _ _
theorem in_was (b : Nat) : EIn (was19 b) := fun x hx => by
  simp [was19] at hx
  rcases hx with rfl | rfl
  · exact ⟨by show (1024 : Nat) < 4294967296; decide, fun q hq => by simp at hq; subst hq; show (2 : Nat) < 256; decide⟩
  · exact ⟨by show (1025 : Nat) < 4294967296; decide, fun q hq => by simp at hq⟩
theorem in_now (b : Nat) : EIn (now19 b) := fun x hx => by
  simp [now19] at hx
  rcases hx with rfl | rfl
  · exact ⟨by show (1025 : Nat) < 4294967296; decide, fun q hq => by simp at hq; subst hq; show (4 : Nat) < 256; decide⟩
  · exact ⟨by show (1026 : Nat) < 4294967296; decide, fun q hq => by simp at hq⟩
theorem gone_ok (b : Nat) : DlOk (gone19 b) where
  cp := ⟨Nat.le_refl 1, Nat.le_refl 0, by show (1 : Nat) ≤ 9223372036854775807; decide, by show (0 : Nat) ≤ 9223372036854775807; decide⟩
  m := fun x hx => by cases hx
  zm := by show (0 : Nat) ≤ 100000; decide
  zh := by show (0 : Nat) ≤ 100000; decide
  lo := fun x hx => by cases hx
  zg := by show (1 : Nat) ≤ 100000; decide
theorem nil_ents (w : World) (a : Option Addr) : EntsAt w a [] := ⟨.inl rfl, fun x hx => by cases hx⟩
theorem nil_chs (w : World) (a : Option Addr) : ChsAt w a [] := ⟨.inl rfl, fun x hx => by cases hx⟩
theorem want_in (b1 b2 b3 b : Nat) : DlIn (want19 b1 b2 b3 b) := ⟨by show (1 : Nat) ≤ 1000000; decide, by show (1 : Nat) ≤ 1000000; decide, by show (2 : Nat) ≤ 1000000; decide, fun x hx => by
  simp [want19] at hx; subst hx; show (0 : Nat) < 256; decide⟩
theorem v19_in {d : DlE} (h : d.v = v19) : DlIn d := by
  have h1 : d.G = [1024] := congrArg Dl.gone h
  have h2 : evs d.M = [(1026, [])] := congrArg Dl.come h
  have h3 : chv d.H = [⟨1025, 0, [⟨4, 0, 0, 0⟩], []⟩] := congrArg Dl.chg h
  refine ⟨by rw [h1]; decide, ?_, ?_, ?_⟩
  · unfold esz
    rw [← evs_len, ← cszV_evs, h2]; decide
  · rw [← chv_len, ← hszV_chv, h3]; decide
  · intro x hx
    have : x.v ∈ chv d.H := List.mem_map.2 ⟨x, hx, rfl⟩
    rw [h3] at this
    have e : x.v = ⟨1025, 0, [⟨4, 0, 0, 0⟩], []⟩ := by simpa using this
    have e2 : x.lost = 0 := congrArg Chg.lost e
    omega
set_option maxHeartbeats 16000000 in
theorem awake19 (w : World) (ht : Tab w) : Calls Tryd.prog 4 #[] w fun e w' => e = .returned (.bool true) ∧ Fr Nobody w w' := by
  have HT : Hid (Tab w) := ht
  have h1 := (Own.start w).litRow #[.int .u8 4, .int .i32 0, .int .i32 0, .int .i32 0] 46 4 1 (by decide) rfl
  have h2 := h1.litRow #[.int .u8 2, .int .i32 5, .int .i32 0, .int .i32 0] 46 4 1 (by decide) rfl
  have s2 : (w.alloc (.cells #[.int .u8 4, .int .i32 0, .int .i32 0, .int .i32 0] 46)).heap.size = w.heap.size + 1 := by simp
  rw [s2] at h2
  have h3 := h2.litRow #[.int .u32 1024, .slice (some ⟨w.heap.size + 1, 0, none⟩) 1 1, .int .u32 1025, .slice none 0 0] 43 2 2 (by decide) rfl
  have s3 : ((w.alloc (.cells #[.int .u8 4, .int .i32 0, .int .i32 0, .int .i32 0] 46)).alloc (.cells #[.int .u8 2, .int .i32 5, .int .i32 0, .int .i32 0] 46)).heap.size = w.heap.size + 2 := by simp
  rw [s3] at h3
  have h4 := h3.litRow #[.int .u32 1025, .slice (some ⟨w.heap.size, 0, none⟩) 1 1, .int .u32 1026, .slice none 0 0] 43 2 2 (by decide) rfl
  have s4 : (((w.alloc (.cells #[.int .u8 4, .int .i32 0, .int .i32 0, .int .i32 0] 46)).alloc (.cells #[.int .u8 2, .int .i32 5, .int .i32 0, .int .i32 0] 46)).alloc (.cells #[.int .u32 1024, .slice (some ⟨w.heap.size + 1, 0, none⟩) 1 1, .int .u32 1025, .slice none 0 0] 43)).heap.size = w.heap.size + 3 := by simp
  rw [s4] at h4
  have HD : Hid (Calls _ _ _ _ _) := diff_any w _ HT.out (l19 w.heap.size (w.heap.size + 1) (w.heap.size + 2) (w.heap.size + 3) ++ []) h4 (some ⟨w.heap.size + 2, 0, none⟩) (some ⟨w.heap.size + 3, 0, none⟩) 2 2 2 2 (was19 (w.heap.size + 1)) (now19 w.heap.size) (fun w' hw => ⟨(l19_at hw).1, (l19_at hw).2.1⟩) rfl rfl (by decide) (by decide) (by decide) (by decide) (in_was _) (in_now _) (by show (3 : Nat) ≤ 1000000; decide) (by show (3 : Nat) ≤ 1000000; decide)
  rw [dc19, dl19] at HD
  clear h1 h2 h3 h4 s2 s3 s4
  clear ht
  go_enter Tryd.func4, Tryd.ntmps4
  go_wp2_with fail
  refine HD.out.mono ?_
  rintro e w5 ⟨d, rfl, hdv, h5⟩
  generalize w.heap.size + 1 = b2 at *
  generalize w.heap.size + 2 = b3 at *
  generalize w.heap.size + 3 = b4 at *
  generalize w.heap.size = b1 at *
  clear HD
  obtain ⟨dG, dga, dgc, dM, dma, dmc, dH, dha, dhc⟩ := d
  simp only [DlE.vs]
  have h6 := h5.allocC (DlE.vs ⟨dG, dga, dgc, dM, dma, dmc, dH, dha, dhc⟩) 26
  have h7 := h6.litRow #[.int .u32 1024] 40 1 1 (by decide) rfl
  have s6 : (w5.alloc (.cells (DlE.vs ⟨dG, dga, dgc, dM, dma, dmc, dH, dha, dhc⟩) 26)).heap.size = w5.heap.size + 1 := by simp
  rw [s6] at h7
  have HP : Hid (Calls _ _ _ _ _) := patch_any w _ HT.out _ h7 none 0 0 [] (gone19 (w5.heap.size + 1)) (fun w' hw => ⟨nil_ents _ _, ⟨Own.nums (X := [1024]) hw, nil_ents _ _, nil_chs _ _⟩⟩) rfl (by decide) (by decide) (fun x hx => by cases hx) (by decide) (gone_ok _)
  have HV : Hid ((⟨dG, dga, dgc, dM, dma, dmc, dH, dha, dhc⟩ : DlE).v = v19) := hdv
  clear h5 h6 h7 s6 hdv
  simp only [DlE.vs, gone19] at HP
  go_wp2_with fail
  refine HP.out.mono ?_
  rintro e w6 ⟨code, ra, rc, R, rfl, hpat, _, _, h8⟩
  have hc4 := pat19 hpat
  subst hc4
  have h9 := h8.litRow #[.int .u32 1024] 40 1 1 (by decide) rfl
  have h10 := h9.litRow #[.int .u32 1026, .slice none 0 0] 43 2 1 (by decide) rfl
  have s9 : (w6.alloc (.cells #[.int .u32 1024] 40)).heap.size = w6.heap.size + 1 := by simp
  rw [s9] at h10
  have h11 := h10.litRow #[.int .u32 1025, .int .u8 0, .slice (some ⟨b1, 0, none⟩) 1 1, .slice none 0 0] 51 4 1 (by decide) rfl
  have s10 : ((w6.alloc (.cells #[.int .u32 1024] 40)).alloc (.cells #[.int .u32 1026, .slice none 0 0] 43)).heap.size = w6.heap.size + 2 := by simp
  rw [s10] at h11
  have hd : DlAt _ ⟨dG, dga, dgc, dM, dma, dmc, dH, dha, dhc⟩ := Own.dlAt h11.tail.tail.tail.tail.tail.tail
  have ctag : Cs _ (some ⟨b1, 0, none⟩) [⟨4, 0, 0, 0⟩] := (l19_at (Own.dropA h11.tail.tail.tail.tail.tail.tail)).2.2
  have hw : DlAt _ (want19 w6.heap.size (w6.heap.size + 1) (w6.heap.size + 2) b1) := ⟨Own.nums (X := [1024]) h11.tail.tail, h11.tail.entsRow (L := [⟨1026, none, 0, []⟩]) rfl rfl (fun x hx => by simp at hx; subst hx; exact cs_nil _ _), h11.chsRow (L := [⟨1025, 0, [⟨4, 0, 0, 0⟩], some ⟨b1, 0, none⟩, 1, [], none, 0⟩]) rfl rfl (fun x hx => by simp at hx; subst hx; exact ⟨ctag, cs_nil _ _⟩)⟩
  have HS : Hid (Calls _ _ _ _ _) := rsame_any _ _ _ hd hw (v19_in HV.out) (want_in _ _ _ _)
  have HSV : Hid (Own w _ _) := h11
  rw [HV.out, want_v, decide_eq_true rfl] at HS
  have p0 := h8.tail.tail.cell 0
  have p1 := h8.tail.tail.cell 1
  have p2 := h8.tail.tail.cell 2
  simp at p0 p1 p2
  simp only [DlE.vs, want19] at HS
  clear h8 h9 h10 h11 s9 s10 hd hw ctag HP hpat
  go_wp2_with fail
  refine HS.out.mono ?_
  rintro e w7 ⟨rfl, hf7⟩
  have HF : Hid (Fr Nobody w w7) := HSV.out.fr.trans hf7
  clear hf7 HS HSV p0 p1 p2
  go_wp2
  go_ret
  exact ⟨rfl, HF.out⟩
end Go.Proofs.YtkjanpjlpieaoaaDoor

