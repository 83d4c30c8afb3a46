/-
  The entities by their makes.
-/
import Derived.Test.YtlbbljjfejhniaaDoorOxg
namespace Go.Proofs.YtlbbljjfejhniaaDoor
open Go.RowKit Go.Maps
set_option linter.unusedVariables false
set_option maxRecDepth 100000

theorem ptrs_len (p : Nat → Option Nat) : (ptrs p).length = 64 := by simp [ptrs]
theorem tabs_load {w0 w : World} {l : List Thing} {b bs : Nat} {v : Value} {p : Nat → Option Nat} {σ : Sto} {K : Nat} (h : Own w0 w (StoX b σ K (bs, v, p) :: l)) : (loadVar 65 ⟨b, 2, none⟩).run Tryd.prog w = .ok (.agg (ptrs p).toArray) w := by
  have hl : (loadCells ⟨b, 2, none⟩ (ptrs p).length).run Tryd.prog w = .ok (ptrs p).toArray w := by
    refine run_loadCells_list (P := Tryd.prog) w ⟨b, 2, none⟩ (ptrs p) (fun j u hu => ?_)
    have hj := (List.getElem?_eq_some_iff.1 hu).1
    rw [ptrs_len] at hj
    rw [addr_add, (stoCells h).2.2 j hj]
    simp [ptrs, hj] at hu
    rw [← hu]
  rw [ptrs_len] at hl
  have hagg : (isAgg 65).run Tryd.prog w = .ok true w := by kernel_rfl
  unfold loadVar
  simp [hagg, hl]
theorem wp_load_run {P : Program} {o : Oper} {a : Act} {w : World} {K : Act → World → Prop} {Q : Exit → Act → World → Prop} (ty : TypeId) (x : Operand) (ho : o.op = .load ty x) (ad : Addr) (hx : a.eval x = .pointer (some ad)) (v : Value) (hr : (loadVar ty ad).run P w = .ok v w) (h : K (a.put o.dst v) w) : o.wp P a w K Q := by
  unfold Oper.wp execOp
  simp only [ho, hx, Instr.loadAt, Instr.sureAddr, Sem.run_bind, Sem.run_pure, Result.andThen_ok, hr]
  exact h
theorem ptrs_at (p : Nat → Option Nat) (k : Nat) (hk : k < 64) (w : World) : (Instr.index 65 (.agg (ptrs p).toArray) (.int .i64 (k : Int))).run Tryd.prog w = .ok (.pointer (pp (p k))) w := by
  have hs : (sizeOf 64).run Tryd.prog w = .ok 1 w := by kernel_rfl
  unfold Instr.index
  simp [asIntOf, run_underlying Tryd.underlying65, part, hs, ptrs, hk]
/-- a group: its make, who is in it, where they lie -/
structure GrE where
  m : Nat
  I : List Nat
  ao : Option Addr
  cap : Nat
def GrE.cs (x : GrE) : List Value := [.int .u8 (x.m : Int), .slice x.ao x.I.length x.cap]
def GrE.row (x : GrE) : Thing := Row 32 1 (.slice x.ao x.I.length x.cap) x.I.length (irow .u32 x.I)
def GrE.is (x : GrE) : Nat × List Nat := (x.m, x.I)
/-- who is of which make, of the first k makes -/
def Sto.grs (σ : Sto) (k : Nat) : List (Nat × List Nat) := ((List.range k).filter (fun m => decide (σ.T m ≠ []))).map (fun m => (m, ids (σ.T m)))
theorem Sto.grs_succ (σ : Sto) (k : Nat) : σ.grs (k + 1) = if σ.T k = [] then σ.grs k else σ.grs k ++ [(k, ids (σ.T k))] := by
  unfold Sto.grs
  rw [List.range_succ, List.filter_append, List.map_append]
  by_cases h : σ.T k = [] <;> simp [h]
theorem Tryd.infoGr : (Tryd.prog.info? 56).map (fun i => (i.zero, i.size, i.bytes)) = some (some (.agg #[.int .u8 0, .slice none 0 0]), 2, 32) := by kernel_rfl
set_option maxHeartbeats 4000000 in
theorem sgroupsX (w0 w : World) (l : List Thing) (b bs : Nat) (v : Value) (p : Nat → Option Nat) (σ : Sto) (K : Nat) (h : Own w0 w (StoX b σ K (bs, v, p) :: l)) (hK : K ≤ 1000000) : Calls Tryd.prog 16 #[.pointer (some ⟨b, 0, none⟩)] w fun e w' => ∃ G ra rc, e = .returned (.slice ra G.length rc) ∧ G.map GrE.is = σ.grs 64 ∧ Own w0 w' (Row 56 2 (.slice ra G.length rc) G.length (cat GrE.cs G) :: (G.map GrE.row ++ StoX b σ K (bs, v, p) :: l)) := by
  obtain ⟨i0, hi, hz0, hz1, hz2⟩ := info_parts Tryd.infoGr
  have HLD : Hid _ := tabs_load h
  have d0 : w.cell? ⟨b, 2, none⟩ = some (.pointer (pp (p 0))) := (stoCells h).2.2 0 (by decide)
  have d1 : w.cell? ⟨b, 3, none⟩ = some (.pointer (pp (p 1))) := (stoCells h).2.2 1 (by decide)
  have d2 : w.cell? ⟨b, 4, none⟩ = some (.pointer (pp (p 2))) := (stoCells h).2.2 2 (by decide)
  have d3 : w.cell? ⟨b, 5, none⟩ = some (.pointer (pp (p 3))) := (stoCells h).2.2 3 (by decide)
  have d4 : w.cell? ⟨b, 6, none⟩ = some (.pointer (pp (p 4))) := (stoCells h).2.2 4 (by decide)
  have d5 : w.cell? ⟨b, 7, none⟩ = some (.pointer (pp (p 5))) := (stoCells h).2.2 5 (by decide)
  have d6 : w.cell? ⟨b, 8, none⟩ = some (.pointer (pp (p 6))) := (stoCells h).2.2 6 (by decide)
  have d7 : w.cell? ⟨b, 9, none⟩ = some (.pointer (pp (p 7))) := (stoCells h).2.2 7 (by decide)
  have d8 : w.cell? ⟨b, 10, none⟩ = some (.pointer (pp (p 8))) := (stoCells h).2.2 8 (by decide)
  have d9 : w.cell? ⟨b, 11, none⟩ = some (.pointer (pp (p 9))) := (stoCells h).2.2 9 (by decide)
  have d10 : w.cell? ⟨b, 12, none⟩ = some (.pointer (pp (p 10))) := (stoCells h).2.2 10 (by decide)
  have d11 : w.cell? ⟨b, 13, none⟩ = some (.pointer (pp (p 11))) := (stoCells h).2.2 11 (by decide)
  have d12 : w.cell? ⟨b, 14, none⟩ = some (.pointer (pp (p 12))) := (stoCells h).2.2 12 (by decide)
  have d13 : w.cell? ⟨b, 15, none⟩ = some (.pointer (pp (p 13))) := (stoCells h).2.2 13 (by decide)
  have d14 : w.cell? ⟨b, 16, none⟩ = some (.pointer (pp (p 14))) := (stoCells h).2.2 14 (by decide)
  have d15 : w.cell? ⟨b, 17, none⟩ = some (.pointer (pp (p 15))) := (stoCells h).2.2 15 (by decide)
  have d16 : w.cell? ⟨b, 18, none⟩ = some (.pointer (pp (p 16))) := (stoCells h).2.2 16 (by decide)
  have d17 : w.cell? ⟨b, 19, none⟩ = some (.pointer (pp (p 17))) := (stoCells h).2.2 17 (by decide)
  have d18 : w.cell? ⟨b, 20, none⟩ = some (.pointer (pp (p 18))) := (stoCells h).2.2 18 (by decide)
  have d19 : w.cell? ⟨b, 21, none⟩ = some (.pointer (pp (p 19))) := (stoCells h).2.2 19 (by decide)
  have d20 : w.cell? ⟨b, 22, none⟩ = some (.pointer (pp (p 20))) := (stoCells h).2.2 20 (by decide)
  have d21 : w.cell? ⟨b, 23, none⟩ = some (.pointer (pp (p 21))) := (stoCells h).2.2 21 (by decide)
  have d22 : w.cell? ⟨b, 24, none⟩ = some (.pointer (pp (p 22))) := (stoCells h).2.2 22 (by decide)
  have d23 : w.cell? ⟨b, 25, none⟩ = some (.pointer (pp (p 23))) := (stoCells h).2.2 23 (by decide)
  have d24 : w.cell? ⟨b, 26, none⟩ = some (.pointer (pp (p 24))) := (stoCells h).2.2 24 (by decide)
  have d25 : w.cell? ⟨b, 27, none⟩ = some (.pointer (pp (p 25))) := (stoCells h).2.2 25 (by decide)
  have d26 : w.cell? ⟨b, 28, none⟩ = some (.pointer (pp (p 26))) := (stoCells h).2.2 26 (by decide)
  have d27 : w.cell? ⟨b, 29, none⟩ = some (.pointer (pp (p 27))) := (stoCells h).2.2 27 (by decide)
  have d28 : w.cell? ⟨b, 30, none⟩ = some (.pointer (pp (p 28))) := (stoCells h).2.2 28 (by decide)
  have d29 : w.cell? ⟨b, 31, none⟩ = some (.pointer (pp (p 29))) := (stoCells h).2.2 29 (by decide)
  have d30 : w.cell? ⟨b, 32, none⟩ = some (.pointer (pp (p 30))) := (stoCells h).2.2 30 (by decide)
  have d31 : w.cell? ⟨b, 33, none⟩ = some (.pointer (pp (p 31))) := (stoCells h).2.2 31 (by decide)
  have d32 : w.cell? ⟨b, 34, none⟩ = some (.pointer (pp (p 32))) := (stoCells h).2.2 32 (by decide)
  have d33 : w.cell? ⟨b, 35, none⟩ = some (.pointer (pp (p 33))) := (stoCells h).2.2 33 (by decide)
  have d34 : w.cell? ⟨b, 36, none⟩ = some (.pointer (pp (p 34))) := (stoCells h).2.2 34 (by decide)
  have d35 : w.cell? ⟨b, 37, none⟩ = some (.pointer (pp (p 35))) := (stoCells h).2.2 35 (by decide)
  have d36 : w.cell? ⟨b, 38, none⟩ = some (.pointer (pp (p 36))) := (stoCells h).2.2 36 (by decide)
  have d37 : w.cell? ⟨b, 39, none⟩ = some (.pointer (pp (p 37))) := (stoCells h).2.2 37 (by decide)
  have d38 : w.cell? ⟨b, 40, none⟩ = some (.pointer (pp (p 38))) := (stoCells h).2.2 38 (by decide)
  have d39 : w.cell? ⟨b, 41, none⟩ = some (.pointer (pp (p 39))) := (stoCells h).2.2 39 (by decide)
  have d40 : w.cell? ⟨b, 42, none⟩ = some (.pointer (pp (p 40))) := (stoCells h).2.2 40 (by decide)
  have d41 : w.cell? ⟨b, 43, none⟩ = some (.pointer (pp (p 41))) := (stoCells h).2.2 41 (by decide)
  have d42 : w.cell? ⟨b, 44, none⟩ = some (.pointer (pp (p 42))) := (stoCells h).2.2 42 (by decide)
  have d43 : w.cell? ⟨b, 45, none⟩ = some (.pointer (pp (p 43))) := (stoCells h).2.2 43 (by decide)
  have d44 : w.cell? ⟨b, 46, none⟩ = some (.pointer (pp (p 44))) := (stoCells h).2.2 44 (by decide)
  have d45 : w.cell? ⟨b, 47, none⟩ = some (.pointer (pp (p 45))) := (stoCells h).2.2 45 (by decide)
  have d46 : w.cell? ⟨b, 48, none⟩ = some (.pointer (pp (p 46))) := (stoCells h).2.2 46 (by decide)
  have d47 : w.cell? ⟨b, 49, none⟩ = some (.pointer (pp (p 47))) := (stoCells h).2.2 47 (by decide)
  have d48 : w.cell? ⟨b, 50, none⟩ = some (.pointer (pp (p 48))) := (stoCells h).2.2 48 (by decide)
  have d49 : w.cell? ⟨b, 51, none⟩ = some (.pointer (pp (p 49))) := (stoCells h).2.2 49 (by decide)
  have d50 : w.cell? ⟨b, 52, none⟩ = some (.pointer (pp (p 50))) := (stoCells h).2.2 50 (by decide)
  have d51 : w.cell? ⟨b, 53, none⟩ = some (.pointer (pp (p 51))) := (stoCells h).2.2 51 (by decide)
  have d52 : w.cell? ⟨b, 54, none⟩ = some (.pointer (pp (p 52))) := (stoCells h).2.2 52 (by decide)
  have d53 : w.cell? ⟨b, 55, none⟩ = some (.pointer (pp (p 53))) := (stoCells h).2.2 53 (by decide)
  have d54 : w.cell? ⟨b, 56, none⟩ = some (.pointer (pp (p 54))) := (stoCells h).2.2 54 (by decide)
  have d55 : w.cell? ⟨b, 57, none⟩ = some (.pointer (pp (p 55))) := (stoCells h).2.2 55 (by decide)
  have d56 : w.cell? ⟨b, 58, none⟩ = some (.pointer (pp (p 56))) := (stoCells h).2.2 56 (by decide)
  have d57 : w.cell? ⟨b, 59, none⟩ = some (.pointer (pp (p 57))) := (stoCells h).2.2 57 (by decide)
  have d58 : w.cell? ⟨b, 60, none⟩ = some (.pointer (pp (p 58))) := (stoCells h).2.2 58 (by decide)
  have d59 : w.cell? ⟨b, 61, none⟩ = some (.pointer (pp (p 59))) := (stoCells h).2.2 59 (by decide)
  have d60 : w.cell? ⟨b, 62, none⟩ = some (.pointer (pp (p 60))) := (stoCells h).2.2 60 (by decide)
  have d61 : w.cell? ⟨b, 63, none⟩ = some (.pointer (pp (p 61))) := (stoCells h).2.2 61 (by decide)
  have d62 : w.cell? ⟨b, 64, none⟩ = some (.pointer (pp (p 62))) := (stoCells h).2.2 62 (by decide)
  have d63 : w.cell? ⟨b, 65, none⟩ = some (.pointer (pp (p 63))) := (stoCells h).2.2 63 (by decide)
  go_enter Tryd.func16, Tryd.ntmps16
  go_wp2
  rename_i aa
  refine wp_load_run 65 (.tmp 10) rfl ⟨b, 2, none⟩ rfl _ HLD.out (aa _ _ ?_)
  clear d0 d1 d2 d3 d4 d5 d6 d7 d8 d9 d10 d11 d12 d13 d14 d15 d16 d17 d18 d19 d20 d21 d22 d23 d24 d25 d26 d27 d28 d29 d30 d31 d32 d33 d34 d35 d36 d37 d38 d39 d40 d41 d42 d43 d44 d45 d46 d47 d48 d49 d50 d51 d52 d53 d54 d55 d56 d57 d58 d59 d60 d61 d62 d63
  have HIX : Hid _ := ptrs_at p
  generalize (ptrs p).toArray = A at *
  have H0 : Hid (Own w0 w (StoX b σ K (bs, v, p) :: l)) := h
  clear h HLD
  go_wp2
  go_loopw [3, 12] (fun lv cc wr => ∃ (k : Nat) (G : List GrE) (ra : Option Addr) (rc : Nat), k ≤ 64 ∧ cc = .int .i64 k ∧ lv = .slice ra G.length rc ∧ G.length ≤ k ∧ G.map GrE.is = σ.grs k ∧ Own w0 wr (Row 56 2 (.slice ra G.length rc) G.length (cat GrE.cs G) :: (G.map GrE.row ++ StoX b σ K (bs, v, p) :: l))) (fun _ cc _ => 64 - (intOf cc).toNat)
  case atStart => exact ⟨0, [], none, 0, by decide, rfl, rfl, by decide, rfl, H0.out.nilRow 56 2⟩
  case round =>
    obtain ⟨k, G, ra, rc, hk, rfl, rfl, hGl, hG, hO⟩ := hrel
    have HO : Hid (Own w0 wr _) := hO
    have HG : Hid (G.map GrE.is = σ.grs k) := hG
    clear H0
    by_cases hlt : k < 64
    · have hlt' : (k : Int) < 64 := by omega
      have hix := HIX.out k hlt
      have hX : Own w0 wr (StoX b σ K (bs, v, p) :: Row 56 2 (.slice ra G.length rc) G.length (cat GrE.cs G) :: (G.map GrE.row ++ l)) := hO.perm ((List.perm_middle.cons _).trans (List.Perm.swap _ _ _))
      cases hp : p k with
      | none =>
        have HT : Hid (σ.T k = []) := (hX.stoN hlt hp).1
        rw [hp, pp_none] at hix
        clear hX hO hG hp
        go_wp2
        go_roundw
        case rel => exact ⟨k + 1, G, ra, rc, by omega, by go_num, rfl, by omega, by rw [Sto.grs_succ, if_pos HT.out]; exact HG.out, HO.out⟩
        case measure => simp [intOf]; omega
      | some bt =>
        obtain ⟨c, hc, hne, hlen, hT⟩ := hX.stoB hlt hp
        rw [hp, pp_some] at hix
        have HID : Hid (Calls _ _ _ _ _) := tids w0 wr _ bt k (σ.T k) c hT (by omega)
        have HNE : Hid (σ.T k ≠ []) := hne
        have HLN : Hid ((ids (σ.T k)).length = (σ.T k).length) := length_ids _
        have HB : Hid (∀ w' ao cap, Own w0 w' (Row 32 1 (.slice ao (σ.T k).length cap) (σ.T k).length (irow .u32 (ids (σ.T k))) :: Table bt k (σ.T k) c :: StoB b σ K (bs, v, p) k :: Row 56 2 (.slice ra G.length rc) G.length (cat GrE.cs G) :: (G.map GrE.row ++ l)) → Own w0 w' (Row 56 2 (.slice ra G.length rc) G.length (cat GrE.cs G) :: StoX b σ K (bs, v, p) :: Row 32 1 (.slice ao (σ.T k).length cap) (σ.T k).length (irow .u32 (ids (σ.T k))) :: (G.map GrE.row ++ l))) := by
          intro w' ao cap h'
          exact (h'.two.in23.stoT hlt hp hc hne hlen).three
        clear hX hO hG hT HO
        go_wp2_with fail
        refine HID.out.mono ?_
        rintro e w2 ⟨ao, cap, rfl, hO⟩
        have H2 : Hid (Own w0 w2 _) := HB.out _ _ _ hO
        clear hO HID HB
        go_wp2_with (at_builtin; refine append1_own rfl _ _ 53 rfl 56 i0 (.agg #[.int .u8 0, .slice none 0 0]) 2 32 Tryd.underlying53 hi hz0 hz1 hz2 rfl (by decide) _ _ _ rfl H2.out _ #[.int .u8 (k : Int), .slice ao (σ.T k).length cap] (by simp) rfl rfl (by intro u hu; simp at hu; rcases hu with rfl | rfl <;> rfl) (by unfold maxLen; omega) (by omega) ?_)
        intro g3 c3 w3 hO3 hsz3
        have H3 : Hid (Own w0 w3 (Row 56 2 (.slice (some ⟨g3, 0, none⟩) (G ++ [GrE.mk k (ids (σ.T k)) ao cap]).length c3) (G ++ [GrE.mk k (ids (σ.T k)) ao cap]).length (cat GrE.cs (G ++ [GrE.mk k (ids (σ.T k)) ao cap])) :: ((G ++ [GrE.mk k (ids (σ.T k)) ao cap]).map GrE.row ++ StoX b σ K (bs, v, p) :: l))) := by
          show Own _ _ _
          rw [List.length_append, cat_append, List.map_append]
          have e1 : cat GrE.cs [GrE.mk k (ids (σ.T k)) ao cap] = [.int .u8 (k : Int), .slice ao (σ.T k).length cap] := by simp [cat, GrE.cs, HLN.out]
          have e2 : [GrE.mk k (ids (σ.T k)) ao cap].map GrE.row = [Row 32 1 (.slice ao (σ.T k).length cap) (σ.T k).length (irow .u32 (ids (σ.T k)))] := by simp [GrE.row, HLN.out]
          rw [e1, e2]
          refine hO3.perm (List.Perm.cons _ ?_)
          rw [List.append_assoc]
          refine (List.Perm.swap _ _ _).trans ?_
          exact ((List.perm_middle (l₁ := G.map GrE.row) (a := StoX b σ K (bs, v, p)) (l₂ := l)).symm.cons _).trans List.perm_middle.symm
        clear hO3 hsz3 H2
        go_wp2
        go_roundw
        case rel =>
          refine ⟨k + 1, G ++ [GrE.mk k (ids (σ.T k)) ao cap], some ⟨g3, 0, none⟩, c3, by omega, by go_num, by rw [List.length_append]; rfl, by rw [List.length_append]; simp; omega, ?_, H3.out⟩
          rw [Sto.grs_succ, if_neg HNE.out, List.map_append, HG.out]; rfl
        case measure => simp [intOf]; omega
    · have hlt' : ¬ (k : Int) < 64 := by omega
      have hk2 : k = 64 := by omega
      subst hk2
      clear hO hG
      go_wp2
      go_ret
      exact ⟨G, ra, rc, rfl, HG.out, HO.out⟩
end Go.Proofs.YtlbbljjfejhniaaDoor
