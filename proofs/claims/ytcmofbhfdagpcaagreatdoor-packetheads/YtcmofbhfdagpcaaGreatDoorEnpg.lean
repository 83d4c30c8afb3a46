/-
  Entities sorted by their IDs, components by their kinds.
-/
import Derived.Test.YtcmofbhfdagpcaaGreatDoorSrt
import Derived.Test.YtcmofbhfdagpcaaGreatDoorEnbg
import Derived.Shelf.SlGeneric
namespace Go.Proofs.YtcmofbhfdagpcaaGreatDoor
open Go.RowKit Go.Sort Go.Shelf
set_option linter.unusedVariables false
set_option maxRecDepth 100000

def sortEn_ren : Go.Shelf.Ren := ⟨fun | 6 => 117 | 15 => 144 | 14 => 143 | 28 => 163 | 29 => 95 | 20 => 155 | 21 => 156 | 22 => 157 | 23 => 158 | 24 => 159 | 25 => 160 | 26 => 161 | 27 => 162 | 46 => 174 | 47 => 175 | 48 => 176 | 49 => 177 | 50 => 178 | 57 => 182 | n => n, fun | 22 => 31 | 24 => 90 | 25 => 174 | 3 => 3 | 39 => 106 | 0 => 0 | 53 => 22 | 55 => 62 | 4 => 4 | 46 => 207 | 45 => 206 | 50 => 161 | 5 => 5 | 9 => 9 | 66 => 220 | 70 => 223 | 76 => 227 | 77 => 228 | n => n, fun | n => n⟩
theorem sortEn : Go.Proofs.SlLaysF0.n6 Tryz.prog sortEn_ren := {
  mixed := by kernel_rfl
  f6 := ⟨Tryz.f117.name, by decide, Tryz.func117.trans (congrArg some (by kernel_rfl))⟩
  f14 := ⟨Tryz.f143.name, by decide, Tryz.func143.trans (congrArg some (by kernel_rfl))⟩
  f15 := Tryz.func144.trans (congrArg some (by kernel_rfl))
  f20 := ⟨Tryz.f155.name, by decide, Tryz.func155.trans (congrArg some (by kernel_rfl))⟩
  f21 := ⟨Tryz.f156.name, by decide, Tryz.func156.trans (congrArg some (by kernel_rfl))⟩
  f22 := ⟨Tryz.f157.name, by decide, Tryz.func157.trans (congrArg some (by kernel_rfl))⟩
  f23 := ⟨Tryz.f158.name, by decide, Tryz.func158.trans (congrArg some (by kernel_rfl))⟩
  f24 := ⟨Tryz.f159.name, by decide, Tryz.func159.trans (congrArg some (by kernel_rfl))⟩
  f25 := ⟨Tryz.f160.name, by decide, Tryz.func160.trans (congrArg some (by kernel_rfl))⟩
  f26 := ⟨Tryz.f161.name, by decide, Tryz.func161.trans (congrArg some (by kernel_rfl))⟩
  f27 := ⟨Tryz.f162.name, by decide, Tryz.func162.trans (congrArg some (by kernel_rfl))⟩
  f28 := Tryz.func163.trans (congrArg some (by kernel_rfl))
  f29 := Tryz.func95.trans (congrArg some (by kernel_rfl))
  f46 := ⟨Tryz.f174.name, by decide, Tryz.func174.trans (congrArg some (by kernel_rfl))⟩
  f47 := Tryz.func175.trans (congrArg some (by kernel_rfl))
  f48 := Tryz.func176.trans (congrArg some (by kernel_rfl))
  f49 := ⟨Tryz.f177.name, by decide, Tryz.func177.trans (congrArg some (by kernel_rfl))⟩
  f50 := ⟨Tryz.f178.name, by decide, Tryz.func178.trans (congrArg some (by kernel_rfl))⟩
  f57 := ⟨Tryz.f182.name, by decide, Tryz.func182.trans (congrArg some (by kernel_rfl))⟩
  t0 := Tryz.underlying0
  a0 := Tryz.isAgg0
  z0 := Tryz.sizeOf0
  v0 := Tryz.zeroValue0
  t3 := Tryz.underlying3
  a3 := Tryz.isAgg3
  z3 := Tryz.sizeOf3
  v3 := Tryz.zeroValue3
  t4 := Tryz.underlying4
  a4 := Tryz.isAgg4
  z4 := Tryz.sizeOf4
  v4 := Tryz.zeroValue4
  t5 := Tryz.underlying5
  a5 := Tryz.isAgg5
  z5 := Tryz.sizeOf5
  v5 := Tryz.zeroValue5
  t9 := Tryz.underlying9
  a9 := Tryz.isAgg9
  z9 := Tryz.sizeOf9
  v9 := Tryz.zeroValue9
  t22 := Tryz.underlying31
  a22 := Tryz.isAgg31
  z22 := Tryz.sizeOf31
  v22 := Tryz.zeroValue31
  t25 := Tryz.underlying174
  a25 := Tryz.isAgg174
  z25 := Tryz.sizeOf174
  v25 := Tryz.zeroValue174
  t39 := Tryz.underlying106
  a39 := Tryz.isAgg106
  z39 := Tryz.sizeOf106
  v39 := Tryz.zeroValue106
  t45 := Tryz.underlying206
  a45 := Tryz.isAgg206
  z45 := Tryz.sizeOf206
  v45 := Tryz.zeroValue206
  t46 := Tryz.underlying207
  a46 := Tryz.isAgg207
  z46 := Tryz.sizeOf207
  v46 := Tryz.zeroValue207
  t50 := Tryz.underlying161
  a50 := Tryz.isAgg161
  z50 := Tryz.sizeOf161
  v50 := Tryz.zeroValue161
  t53 := Tryz.underlying22
  a53 := Tryz.isAgg22
  z53 := Tryz.sizeOf22
  v53 := Tryz.zeroValue22
  t55 := Tryz.underlying62
  a55 := Tryz.isAgg62
  z55 := Tryz.sizeOf62
  v55 := Tryz.zeroValue62
  t66 := Tryz.underlying220
  a66 := Tryz.isAgg220
  z66 := Tryz.sizeOf220
  v66 := Tryz.zeroValue220
  t70 := Tryz.underlying223
  a70 := Tryz.isAgg223
  z70 := Tryz.sizeOf223
  v70 := Tryz.zeroValue223
  t76 := Tryz.underlying227
  a76 := Tryz.isAgg227
  z76 := Tryz.sizeOf227
  v76 := Tryz.zeroValue227
  t77 := Tryz.underlying228
  a77 := Tryz.isAgg228
  z77 := Tryz.sizeOf228
  v77 := Tryz.zeroValue228 }
def sortCp_ren : Go.Shelf.Ren := ⟨fun | 6 => 140 | 15 => 144 | 14 => 153 | 28 => 163 | 29 => 95 | 20 => 166 | 21 => 167 | 22 => 168 | 23 => 169 | 24 => 170 | 25 => 171 | 26 => 172 | 27 => 173 | 46 => 179 | 47 => 175 | 48 => 176 | 49 => 180 | 50 => 181 | 57 => 183 | n => n, fun | 22 => 88 | 24 => 96 | 25 => 182 | 3 => 3 | 39 => 106 | 0 => 0 | 53 => 22 | 55 => 62 | 4 => 4 | 46 => 207 | 45 => 206 | 50 => 161 | 5 => 5 | 9 => 9 | 66 => 220 | 70 => 223 | 76 => 227 | 77 => 228 | n => n, fun | n => n⟩
theorem sortCp : Go.Proofs.SlLaysF0.n6 Tryz.prog sortCp_ren := {
  mixed := by kernel_rfl
  f6 := ⟨Tryz.f140.name, by decide, Tryz.func140.trans (congrArg some (by kernel_rfl))⟩
  f14 := ⟨Tryz.f153.name, by decide, Tryz.func153.trans (congrArg some (by kernel_rfl))⟩
  f15 := Tryz.func144.trans (congrArg some (by kernel_rfl))
  f20 := ⟨Tryz.f166.name, by decide, Tryz.func166.trans (congrArg some (by kernel_rfl))⟩
  f21 := ⟨Tryz.f167.name, by decide, Tryz.func167.trans (congrArg some (by kernel_rfl))⟩
  f22 := ⟨Tryz.f168.name, by decide, Tryz.func168.trans (congrArg some (by kernel_rfl))⟩
  f23 := ⟨Tryz.f169.name, by decide, Tryz.func169.trans (congrArg some (by kernel_rfl))⟩
  f24 := ⟨Tryz.f170.name, by decide, Tryz.func170.trans (congrArg some (by kernel_rfl))⟩
  f25 := ⟨Tryz.f171.name, by decide, Tryz.func171.trans (congrArg some (by kernel_rfl))⟩
  f26 := ⟨Tryz.f172.name, by decide, Tryz.func172.trans (congrArg some (by kernel_rfl))⟩
  f27 := ⟨Tryz.f173.name, by decide, Tryz.func173.trans (congrArg some (by kernel_rfl))⟩
  f28 := Tryz.func163.trans (congrArg some (by kernel_rfl))
  f29 := Tryz.func95.trans (congrArg some (by kernel_rfl))
  f46 := ⟨Tryz.f179.name, by decide, Tryz.func179.trans (congrArg some (by kernel_rfl))⟩
  f47 := Tryz.func175.trans (congrArg some (by kernel_rfl))
  f48 := Tryz.func176.trans (congrArg some (by kernel_rfl))
  f49 := ⟨Tryz.f180.name, by decide, Tryz.func180.trans (congrArg some (by kernel_rfl))⟩
  f50 := ⟨Tryz.f181.name, by decide, Tryz.func181.trans (congrArg some (by kernel_rfl))⟩
  f57 := ⟨Tryz.f183.name, by decide, Tryz.func183.trans (congrArg some (by kernel_rfl))⟩
  t0 := Tryz.underlying0
  a0 := Tryz.isAgg0
  z0 := Tryz.sizeOf0
  v0 := Tryz.zeroValue0
  t3 := Tryz.underlying3
  a3 := Tryz.isAgg3
  z3 := Tryz.sizeOf3
  v3 := Tryz.zeroValue3
  t4 := Tryz.underlying4
  a4 := Tryz.isAgg4
  z4 := Tryz.sizeOf4
  v4 := Tryz.zeroValue4
  t5 := Tryz.underlying5
  a5 := Tryz.isAgg5
  z5 := Tryz.sizeOf5
  v5 := Tryz.zeroValue5
  t9 := Tryz.underlying9
  a9 := Tryz.isAgg9
  z9 := Tryz.sizeOf9
  v9 := Tryz.zeroValue9
  t22 := Tryz.underlying88
  a22 := Tryz.isAgg88
  z22 := Tryz.sizeOf88
  v22 := Tryz.zeroValue88
  t25 := Tryz.underlying182
  a25 := Tryz.isAgg182
  z25 := Tryz.sizeOf182
  v25 := Tryz.zeroValue182
  t39 := Tryz.underlying106
  a39 := Tryz.isAgg106
  z39 := Tryz.sizeOf106
  v39 := Tryz.zeroValue106
  t45 := Tryz.underlying206
  a45 := Tryz.isAgg206
  z45 := Tryz.sizeOf206
  v45 := Tryz.zeroValue206
  t46 := Tryz.underlying207
  a46 := Tryz.isAgg207
  z46 := Tryz.sizeOf207
  v46 := Tryz.zeroValue207
  t50 := Tryz.underlying161
  a50 := Tryz.isAgg161
  z50 := Tryz.sizeOf161
  v50 := Tryz.zeroValue161
  t53 := Tryz.underlying22
  a53 := Tryz.isAgg22
  z53 := Tryz.sizeOf22
  v53 := Tryz.zeroValue22
  t55 := Tryz.underlying62
  a55 := Tryz.isAgg62
  z55 := Tryz.sizeOf62
  v55 := Tryz.zeroValue62
  t66 := Tryz.underlying220
  a66 := Tryz.isAgg220
  z66 := Tryz.sizeOf220
  v66 := Tryz.zeroValue220
  t70 := Tryz.underlying223
  a70 := Tryz.isAgg223
  z70 := Tryz.sizeOf223
  v70 := Tryz.zeroValue223
  t76 := Tryz.underlying227
  a76 := Tryz.isAgg227
  z76 := Tryz.sizeOf227
  v76 := Tryz.zeroValue227
  t77 := Tryz.underlying228
  a77 := Tryz.isAgg228
  z77 := Tryz.sizeOf228
  v77 := Tryz.zeroValue228 }

instance : Inhabited EnE := ⟨⟨0, none, 0, []⟩⟩
def cmpI (a b : Nat) : Int := if a < b then -1 else if b < a then 1 else 0

set_option maxHeartbeats 1000000 in
theorem isNaN_en (x : Int) (w : World) : Calls Tryz.prog 128 #[.int .u32 x] w fun e w' => e = .returned (.bool false) ∧ w' = w := by
  go_enter Tryz.func128, Tryz.ntmps128
  go_wp2
  go_ret
  exact ⟨by simp, rfl⟩
set_option maxHeartbeats 1000000 in
theorem cmp_en (a b : Nat) (w : World) : Calls Tryz.prog 109 #[.int .u32 (a : Int), .int .u32 (b : Int)] w fun e w' => e = .returned (.int .i64 (cmpI a b)) ∧ w' = w := by
  have HN : Hid (∀ (x : Int) W, Calls Tryz.prog 128 #[.int .u32 x] W fun e w' => e = .returned (.bool false) ∧ w' = W) := fun x W => isNaN_en x W
  go_enter Tryz.func109, Tryz.ntmps109
  go_wp2_with fail
  refine (HN.out _ _).mono ?_
  rintro e w1 ⟨rfl, rfl⟩
  go_wp2_with fail
  refine (HN.out _ _).mono ?_
  rintro e w1 ⟨rfl, rfl⟩
  by_cases h1 : a < b
  · have h1' : (a : Int) < (b : Int) := by omega
    go_wp2
    go_ret
    exact ⟨by simp [cmpI, h1], rfl⟩
  · have h1' : ¬ (a : Int) < (b : Int) := by omega
    by_cases h2 : b < a
    · have h2' : (b : Int) < (a : Int) := by omega
      go_wp2
      go_ret
      exact ⟨by simp [cmpI, h1, h2], rfl⟩
    · have h2' : ¬ (b : Int) < (a : Int) := by omega
      go_wp2
      go_ret
      exact ⟨by simp [cmpI, h1, h2], rfl⟩
set_option maxHeartbeats 1000000 in
theorem cls_en (x y : EnE) (W : World) : Calls Tryz.prog 118 #[.agg x.cs.toArray, .agg y.cs.toArray] W fun e w' => e = .returned (.int .i64 (cmpI x.id y.id)) ∧ ∃ q os', w' = grow (W.drewN q) os' := by
  obtain ⟨xi, xa, xc, xC⟩ := x
  obtain ⟨yi, ya, yc, yC⟩ := y
  have HC : Hid (∀ W, Calls Tryz.prog 109 #[.int .u32 (xi : Int), .int .u32 (yi : Int)] W fun e w' => e = .returned (.int .i64 (cmpI xi yi)) ∧ w' = W) := fun W => cmp_en xi yi W
  show Calls Tryz.prog 118 #[.agg #[.int .u32 (xi : Int), .slice xa xC.length xc], .agg #[.int .u32 (yi : Int), .slice ya yC.length yc]] W fun e w' => e = .returned (.int .i64 (cmpI xi yi)) ∧ ∃ q os', w' = grow (W.drewN q) os'
  generalize cmpI xi yi = r at *
  go_enter Tryz.func118, Tryz.ntmps118
  go_wp2_with fail
  refine (HC.out _).mono ?_
  rintro e w1 ⟨rfl, rfl⟩
  go_wp2
  go_ret
  exact ⟨rfl, 0, _, by rw [alloc_eq_grow, alloc_eq_grow, grow_grow]; rfl⟩
theorem lt_en (x y : EnE) : ltOf (fun x y : EnE => cmpI x.id y.id) x y = decide (x.id < y.id) := by
  unfold ltOf cmpI
  by_cases h1 : x.id < y.id
  · simp [h1]
  · by_cases h2 : y.id < x.id <;> simp [h1, h2]
theorem swo_en : SWO (ltOf fun x y : EnE => cmpI x.id y.id) where
  irrefl x := by rw [lt_en]; simp
  trans x y z h1 h2 := by rw [lt_en] at *; simp at *; omega
  ntrans x y z h1 h2 := by rw [lt_en] at *; simp at *; omega
theorem sorts_en (w0 w : World) (l : List Thing) (g cap : Nat) (L : List EnE) (h : Own w0 w (Row 90 2 (.slice (some ⟨g, 0, none⟩) L.length cap) L.length (cat EnE.cs L) :: l)) (hsz : L.length < 1000000000) :
    Calls Tryz.prog 117 #[.slice (some ⟨g, 0, none⟩) L.length cap, .func (.func 118) #[] #[]] w fun e w' => e = .returned (.tuple #[]) ∧ ∃ L', L'.Perm L ∧ L'.Pairwise (fun a b => a.id ≤ b.id) ∧ Own w0 w' (Row 90 2 (.slice (some ⟨g, 0, none⟩) L.length cap) L.length (cat EnE.cs L') :: l) := by
  have eg : ∀ args w, (callFunc 118 args).run Tryz.prog w = .ok (.enter 118 args) w := enters_of Tryz.func118 (by kernel_rfl) rfl
  have hH := Own.holdsK (enc := EnE.cs) (k := 2) (fun _ => rfl) (by decide) h
  have hblk : g < w.heap.size := by
    obtain ⟨h1, h2⟩ := h.row
    rcases h2 with ⟨hv, _⟩ | ⟨g', cap', cur, hv, hb, hgg, _⟩
    · cases hv
    · simp only [Value.slice.injEq, Option.some.injEq, Addr.mk.injEq] at hv
      rw [hv.1.1]
      exact (Array.getElem?_eq_some_iff.1 hgg).1
  have hcon := AnyQ.slices_SortFunc sortEn 2 Tryz.isAgg90 Tryz.sizeOf90 EnE.cs (fun _ => rfl) (fun x v hv => by simp [EnE.cs] at hv; rcases hv with rfl | rfl <;> rfl) (fun x y => cmpI x.id y.id) swo_en 118 #[] g 0 cap L.toArray w eg (fun _ _ _ _ x y => cls_en x y _) hH hblk (by simp; omega)
  change Calls Tryz.prog 117 _ _ _ at hcon
  rw [show L.toArray.size = L.length by simp] at hcon
  refine hcon.mono ?_
  rintro e w' ⟨rfl, d', n, os, hp, hs, rfl⟩
  obtain ⟨hsz1, _, hp3⟩ := hp
  have hd : d'.size = L.length := by rw [hsz1]; simp
  have hperm : d'.toList.Perm L := by
    have e1 : (d'.extract 0 L.length).toList = d'.toList := by rw [← hd]; simp
    have e2 : (L.toArray.extract 0 L.length).toList = L := by simp
    rw [e1, e2] at hp3
    exact hp3
  refine ⟨rfl, d'.toList, hperm, ?_, ?_⟩
  · rw [List.pairwise_iff_getElem]
    intro i j hi hj hij
    have hi' : i < d'.size := by simpa using hi
    have hj' : j < d'.size := by simpa using hj
    have a := hs i j (Nat.zero_le _) hij (by omega)
    rw [lt_en, getElem!_pos d' i hi', getElem!_pos d' j hj'] at a
    simp at a
    simpa using a
  · have hl : d'.toList.length = L.length := by simpa using hd
    have := h.sortK (enc := EnE.cs) (k := 2) (fun _ => rfl) (by decide) hl n os
    rw [hl] at this
    simpa using this
set_option maxHeartbeats 2000000 in
theorem ins_en (w : World) (f : Value) : Calls Tryz.prog 155 #[.slice none 0 0, .int .i64 0, .int .i64 0, f] w fun e w' => e = .returned (.tuple #[]) ∧ w' = w := by
  go_enter Tryz.func155, Tryz.ntmps155
  go_wp2
  go_loopw [8] (fun v wr => v = .int .i64 1 ∧ wr = w) (fun _ _ => 0)
  case atStart => exact ⟨rfl, rfl⟩
  case round =>
    obtain ⟨rfl, rfl⟩ := hrel
    go_wp2
    go_end0
    exact ⟨rfl, rfl⟩
set_option maxHeartbeats 2000000 in
theorem pdq_en (w : World) (lim : Nat) (f : Value) : Calls Tryz.prog 143 #[.slice none 0 0, .int .i64 0, .int .i64 0, .int .i64 (lim : Int), f] w fun e w' => e = .returned (.tuple #[]) ∧ w' = w := by
  have H : Hid (Calls _ _ _ _ _) := ins_en w f
  go_enter Tryz.func143, Tryz.ntmps143
  go_wp2
  go_loopw [1, 2, 3, 10, 11] (fun v1 v2 v3 v8 v9 wr => v1 = .int .i64 0 ∧ v2 = .int .i64 0 ∧ wr = w) (fun _ _ _ _ _ _ => 0)
  case atStart => exact ⟨rfl, rfl, rfl⟩
  case round =>
    obtain ⟨rfl, rfl, rfl⟩ := hrel
    go_wp2_with fail
    refine H.out.mono ?_
    rintro e w1 ⟨rfl, rfl⟩
    go_wp2
    refine bodyPost_ret (results_none rfl _ _ _) rfl ?_
    exact ⟨rfl, rfl⟩
set_option maxHeartbeats 2000000 in
theorem nilS_en (w : World) (f : Value) : Calls Tryz.prog 117 #[.slice none 0 0, f] w fun e w' => e = .returned (.tuple #[]) ∧ w' = w := by
  have HB : Hid (Calls Tryz.prog 144 #[.int .u64 0] w fun e w' => e = .returned (.int .i64 ((Lib.bitLen 0 : Nat) : Int)) ∧ w' = w) := by
    have h := Any.bits_Len (SlLaysF0.n15.bits (P := Tryz.prog) (ρ := sortEn_ren) { sortEn with }) (0 : Int) w (by omega) (by omega)
    exact h
  have HP : Hid (Calls _ _ _ _ _) := pdq_en w (Lib.bitLen 0) f
  generalize Lib.bitLen 0 = lim at *
  go_enter Tryz.func117, Tryz.ntmps117
  go_wp2_with fail
  refine HB.out.mono ?_
  rintro e w1 ⟨rfl, rfl⟩
  go_wp2_with fail
  refine HP.out.mono ?_
  rintro e w1 ⟨rfl, rfl⟩
  go_wp2
  go_end0
  exact ⟨rfl, rfl⟩
theorem sort_en (w0 w : World) (l : List Thing) (ao : Option Addr) (cap : Nat) (L : List EnE) (h : Own w0 w (Row 90 2 (.slice ao L.length cap) L.length (cat EnE.cs L) :: l)) (hsz : L.length < 1000000000) :
    Calls Tryz.prog 117 #[.slice ao L.length cap, .func (.func 118) #[] #[]] w fun e w' => e = .returned (.tuple #[]) ∧ ∃ L', L'.Perm L ∧ L'.Pairwise (fun a b => a.id ≤ b.id) ∧ Own w0 w' (Row 90 2 (.slice ao L.length cap) L.length (cat EnE.cs L') :: l) := by
  rcases h.row.2 with ⟨hv, hn⟩ | ⟨g, cap', cur, hv, _⟩
  · have hL : L = [] := List.eq_nil_of_length_eq_zero hn
    subst hL
    simp only [List.length_nil, Value.slice.injEq] at hv
    obtain ⟨rfl, _, rfl⟩ := hv
    refine (nilS_en w _).mono ?_
    rintro e w' ⟨rfl, rfl⟩
    exact ⟨rfl, [], List.Perm.refl _, List.Pairwise.nil, h⟩
  · have hva := (Value.slice.inj hv).1
    subst hva
    exact sorts_en w0 w l g cap L h hsz

set_option maxHeartbeats 1000000 in
theorem isNaN_cp (x : Int) (w : World) : Calls Tryz.prog 154 #[.int .u8 x] w fun e w' => e = .returned (.bool false) ∧ w' = w := by
  go_enter Tryz.func154, Tryz.ntmps154
  go_wp2
  go_ret
  exact ⟨by simp, rfl⟩
set_option maxHeartbeats 1000000 in
theorem cmp_cp (a b : Nat) (w : World) : Calls Tryz.prog 142 #[.int .u8 (a : Int), .int .u8 (b : Int)] w fun e w' => e = .returned (.int .i64 (cmpI a b)) ∧ w' = w := by
  have HN : Hid (∀ (x : Int) W, Calls Tryz.prog 154 #[.int .u8 x] W fun e w' => e = .returned (.bool false) ∧ w' = W) := fun x W => isNaN_cp x W
  go_enter Tryz.func142, Tryz.ntmps142
  go_wp2_with fail
  refine (HN.out _ _).mono ?_
  rintro e w1 ⟨rfl, rfl⟩
  go_wp2_with fail
  refine (HN.out _ _).mono ?_
  rintro e w1 ⟨rfl, rfl⟩
  by_cases h1 : a < b
  · have h1' : (a : Int) < (b : Int) := by omega
    go_wp2
    go_ret
    exact ⟨by simp [cmpI, h1], rfl⟩
  · have h1' : ¬ (a : Int) < (b : Int) := by omega
    by_cases h2 : b < a
    · have h2' : (b : Int) < (a : Int) := by omega
      go_wp2
      go_ret
      exact ⟨by simp [cmpI, h1, h2], rfl⟩
    · have h2' : ¬ (b : Int) < (a : Int) := by omega
      go_wp2
      go_ret
      exact ⟨by simp [cmpI, h1, h2], rfl⟩
set_option maxHeartbeats 1000000 in
theorem cls_cp (x y : Cp) (W : World) : Calls Tryz.prog 141 #[.agg x.cs.toArray, .agg y.cs.toArray] W fun e w' => e = .returned (.int .i64 (cmpI x.k y.k)) ∧ ∃ q os', w' = grow (W.drewN q) os' := by
  obtain ⟨xi, xa, xb, xc⟩ := x
  obtain ⟨yi, ya, yb, yc⟩ := y
  have HC : Hid (∀ W, Calls Tryz.prog 142 #[.int .u8 (xi : Int), .int .u8 (yi : Int)] W fun e w' => e = .returned (.int .i64 (cmpI xi yi)) ∧ w' = W) := fun W => cmp_cp xi yi W
  show Calls Tryz.prog 141 #[.agg #[.int .u8 (xi : Int), .int .i32 xa, .int .i32 xb, .int .i32 xc], .agg #[.int .u8 (yi : Int), .int .i32 ya, .int .i32 yb, .int .i32 yc]] W fun e w' => e = .returned (.int .i64 (cmpI xi yi)) ∧ ∃ q os', w' = grow (W.drewN q) os'
  generalize cmpI xi yi = r at *
  go_enter Tryz.func141, Tryz.ntmps141
  go_wp2_with fail
  refine (HC.out _).mono ?_
  rintro e w1 ⟨rfl, rfl⟩
  go_wp2
  go_ret
  exact ⟨rfl, 0, _, by rw [alloc_eq_grow, alloc_eq_grow, grow_grow]; rfl⟩
theorem lt_cp (x y : Cp) : ltOf (fun x y : Cp => cmpI x.k y.k) x y = decide (x.k < y.k) := by
  unfold ltOf cmpI
  by_cases h1 : x.k < y.k
  · simp [h1]
  · by_cases h2 : y.k < x.k <;> simp [h1, h2]
theorem swo_cp : SWO (ltOf fun x y : Cp => cmpI x.k y.k) where
  irrefl x := by rw [lt_cp]; simp
  trans x y z h1 h2 := by rw [lt_cp] at *; simp at *; omega
  ntrans x y z h1 h2 := by rw [lt_cp] at *; simp at *; omega
theorem sorts_cp (w0 w : World) (l : List Thing) (g cap : Nat) (L : List Cp) (h : Own w0 w (Row 96 4 (.slice (some ⟨g, 0, none⟩) L.length cap) L.length (cat Cp.cs L) :: l)) (hsz : L.length < 1000000000) :
    Calls Tryz.prog 140 #[.slice (some ⟨g, 0, none⟩) L.length cap, .func (.func 141) #[] #[]] w fun e w' => e = .returned (.tuple #[]) ∧ ∃ L', L'.Perm L ∧ L'.Pairwise (fun a b => a.k ≤ b.k) ∧ Own w0 w' (Row 96 4 (.slice (some ⟨g, 0, none⟩) L.length cap) L.length (cat Cp.cs L') :: l) := by
  have eg : ∀ args w, (callFunc 141 args).run Tryz.prog w = .ok (.enter 141 args) w := enters_of Tryz.func141 (by kernel_rfl) rfl
  have hH := Own.holdsK (enc := Cp.cs) (k := 4) (fun _ => rfl) (by decide) h
  have hblk : g < w.heap.size := by
    obtain ⟨h1, h2⟩ := h.row
    rcases h2 with ⟨hv, _⟩ | ⟨g', cap', cur, hv, hb, hgg, _⟩
    · cases hv
    · simp only [Value.slice.injEq, Option.some.injEq, Addr.mk.injEq] at hv
      rw [hv.1.1]
      exact (Array.getElem?_eq_some_iff.1 hgg).1
  have hcon := AnyQ.slices_SortFunc sortCp 4 Tryz.isAgg96 Tryz.sizeOf96 Cp.cs (fun _ => rfl) (fun x v hv => by simp [Cp.cs] at hv; rcases hv with rfl | rfl | rfl | rfl <;> rfl) (fun x y => cmpI x.k y.k) swo_cp 141 #[] g 0 cap L.toArray w eg (fun _ _ _ _ x y => cls_cp x y _) hH hblk (by simp; omega)
  change Calls Tryz.prog 140 _ _ _ at hcon
  rw [show L.toArray.size = L.length by simp] at hcon
  refine hcon.mono ?_
  rintro e w' ⟨rfl, d', n, os, hp, hs, rfl⟩
  obtain ⟨hsz1, _, hp3⟩ := hp
  have hd : d'.size = L.length := by rw [hsz1]; simp
  have hperm : d'.toList.Perm L := by
    have e1 : (d'.extract 0 L.length).toList = d'.toList := by rw [← hd]; simp
    have e2 : (L.toArray.extract 0 L.length).toList = L := by simp
    rw [e1, e2] at hp3
    exact hp3
  refine ⟨rfl, d'.toList, hperm, ?_, ?_⟩
  · rw [List.pairwise_iff_getElem]
    intro i j hi hj hij
    have hi' : i < d'.size := by simpa using hi
    have hj' : j < d'.size := by simpa using hj
    have a := hs i j (Nat.zero_le _) hij (by omega)
    rw [lt_cp, getElem!_pos d' i hi', getElem!_pos d' j hj'] at a
    simp at a
    simpa using a
  · have hl : d'.toList.length = L.length := by simpa using hd
    have := h.sortK (enc := Cp.cs) (k := 4) (fun _ => rfl) (by decide) hl n os
    rw [hl] at this
    simpa using this
set_option maxHeartbeats 2000000 in
theorem ins_cp (w : World) (f : Value) : Calls Tryz.prog 166 #[.slice none 0 0, .int .i64 0, .int .i64 0, f] w fun e w' => e = .returned (.tuple #[]) ∧ w' = w := by
  go_enter Tryz.func166, Tryz.ntmps166
  go_wp2
  go_loopw [8] (fun v wr => v = .int .i64 1 ∧ wr = w) (fun _ _ => 0)
  case atStart => exact ⟨rfl, rfl⟩
  case round =>
    obtain ⟨rfl, rfl⟩ := hrel
    go_wp2
    go_end0
    exact ⟨rfl, rfl⟩
set_option maxHeartbeats 2000000 in
theorem pdq_cp (w : World) (lim : Nat) (f : Value) : Calls Tryz.prog 153 #[.slice none 0 0, .int .i64 0, .int .i64 0, .int .i64 (lim : Int), f] w fun e w' => e = .returned (.tuple #[]) ∧ w' = w := by
  have H : Hid (Calls _ _ _ _ _) := ins_cp w f
  go_enter Tryz.func153, Tryz.ntmps153
  go_wp2
  go_loopw [1, 2, 3, 10, 11] (fun v1 v2 v3 v8 v9 wr => v1 = .int .i64 0 ∧ v2 = .int .i64 0 ∧ wr = w) (fun _ _ _ _ _ _ => 0)
  case atStart => exact ⟨rfl, rfl, rfl⟩
  case round =>
    obtain ⟨rfl, rfl, rfl⟩ := hrel
    go_wp2_with fail
    refine H.out.mono ?_
    rintro e w1 ⟨rfl, rfl⟩
    go_wp2
    refine bodyPost_ret (results_none rfl _ _ _) rfl ?_
    exact ⟨rfl, rfl⟩
set_option maxHeartbeats 2000000 in
theorem nilS_cp (w : World) (f : Value) : Calls Tryz.prog 140 #[.slice none 0 0, f] w fun e w' => e = .returned (.tuple #[]) ∧ w' = w := by
  have HB : Hid (Calls Tryz.prog 144 #[.int .u64 0] w fun e w' => e = .returned (.int .i64 ((Lib.bitLen 0 : Nat) : Int)) ∧ w' = w) := by
    have h := Any.bits_Len (SlLaysF0.n15.bits (P := Tryz.prog) (ρ := sortCp_ren) { sortCp with }) (0 : Int) w (by omega) (by omega)
    exact h
  have HP : Hid (Calls _ _ _ _ _) := pdq_cp w (Lib.bitLen 0) f
  generalize Lib.bitLen 0 = lim at *
  go_enter Tryz.func140, Tryz.ntmps140
  go_wp2_with fail
  refine HB.out.mono ?_
  rintro e w1 ⟨rfl, rfl⟩
  go_wp2_with fail
  refine HP.out.mono ?_
  rintro e w1 ⟨rfl, rfl⟩
  go_wp2
  go_end0
  exact ⟨rfl, rfl⟩
theorem sort_cp (w0 w : World) (l : List Thing) (ao : Option Addr) (cap : Nat) (L : List Cp) (h : Own w0 w (Row 96 4 (.slice ao L.length cap) L.length (cat Cp.cs L) :: l)) (hsz : L.length < 1000000000) :
    Calls Tryz.prog 140 #[.slice ao L.length cap, .func (.func 141) #[] #[]] w fun e w' => e = .returned (.tuple #[]) ∧ ∃ L', L'.Perm L ∧ L'.Pairwise (fun a b => a.k ≤ b.k) ∧ Own w0 w' (Row 96 4 (.slice ao L.length cap) L.length (cat Cp.cs L') :: l) := by
  rcases h.row.2 with ⟨hv, hn⟩ | ⟨g, cap', cur, hv, _⟩
  · have hL : L = [] := List.eq_nil_of_length_eq_zero hn
    subst hL
    simp only [List.length_nil, Value.slice.injEq] at hv
    obtain ⟨rfl, _, rfl⟩ := hv
    refine (nilS_cp w _).mono ?_
    rintro e w' ⟨rfl, rfl⟩
    exact ⟨rfl, [], List.Perm.refl _, List.Pairwise.nil, h⟩
  · have hva := (Value.slice.inj hv).1
    subst hva
    exact sorts_cp w0 w l g cap L h hsz
end Go.Proofs.YtcmofbhfdagpcaaGreatDoor
