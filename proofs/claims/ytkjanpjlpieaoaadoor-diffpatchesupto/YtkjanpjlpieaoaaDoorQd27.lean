/-
  Entities sorted by their IDs, components by their kinds.
-/
import Derived.Test.YtkjanpjlpieaoaaDoorQd26
import Derived.Test.YtkjanpjlpieaoaaDoorQd12
import Derived.Shelf.SlGeneric
namespace Go.Proofs.YtkjanpjlpieaoaaDoor
open Go.RowKit Go.Sort Go.Shelf
set_option linter.unusedVariables false
set_option maxRecDepth 100000

def sortEn_ren : Go.Shelf.Ren := ⟨fun | 6 => 33 | 15 => 58 | 14 => 57 | 28 => 79 | 29 => 80 | 20 => 71 | 21 => 72 | 22 => 73 | 23 => 74 | 24 => 75 | 25 => 76 | 26 => 77 | 27 => 78 | 46 => 93 | 47 => 94 | 48 => 95 | 49 => 96 | 50 => 97 | 57 => 101 | n => n, fun | 22 => 22 | 24 => 43 | 25 => 73 | 3 => 3 | 39 => 92 | 0 => 0 | 53 => 39 | 55 => 114 | 4 => 4 | 46 => 106 | 45 => 105 | 50 => 110 | 5 => 5 | 9 => 9 | 66 => 123 | 70 => 127 | 76 => 134 | 77 => 135 | n => n, fun | n => n⟩
theorem sortEn : Go.Proofs.SlLaysF0.n6 Tryd.prog sortEn_ren := {
  mixed := by kernel_rfl
  f6 := ⟨Tryd.f33.name, by decide, Tryd.func33.trans (congrArg some (by kernel_rfl))⟩
  f14 := ⟨Tryd.f57.name, by decide, Tryd.func57.trans (congrArg some (by kernel_rfl))⟩
  f15 := Tryd.func58.trans (congrArg some (by kernel_rfl))
  f20 := ⟨Tryd.f71.name, by decide, Tryd.func71.trans (congrArg some (by kernel_rfl))⟩
  f21 := ⟨Tryd.f72.name, by decide, Tryd.func72.trans (congrArg some (by kernel_rfl))⟩
  f22 := ⟨Tryd.f73.name, by decide, Tryd.func73.trans (congrArg some (by kernel_rfl))⟩
  f23 := ⟨Tryd.f74.name, by decide, Tryd.func74.trans (congrArg some (by kernel_rfl))⟩
  f24 := ⟨Tryd.f75.name, by decide, Tryd.func75.trans (congrArg some (by kernel_rfl))⟩
  f25 := ⟨Tryd.f76.name, by decide, Tryd.func76.trans (congrArg some (by kernel_rfl))⟩
  f26 := ⟨Tryd.f77.name, by decide, Tryd.func77.trans (congrArg some (by kernel_rfl))⟩
  f27 := ⟨Tryd.f78.name, by decide, Tryd.func78.trans (congrArg some (by kernel_rfl))⟩
  f28 := Tryd.func79.trans (congrArg some (by kernel_rfl))
  f29 := Tryd.func80.trans (congrArg some (by kernel_rfl))
  f46 := ⟨Tryd.f93.name, by decide, Tryd.func93.trans (congrArg some (by kernel_rfl))⟩
  f47 := Tryd.func94.trans (congrArg some (by kernel_rfl))
  f48 := Tryd.func95.trans (congrArg some (by kernel_rfl))
  f49 := ⟨Tryd.f96.name, by decide, Tryd.func96.trans (congrArg some (by kernel_rfl))⟩
  f50 := ⟨Tryd.f97.name, by decide, Tryd.func97.trans (congrArg some (by kernel_rfl))⟩
  f57 := ⟨Tryd.f101.name, by decide, Tryd.func101.trans (congrArg some (by kernel_rfl))⟩
  t0 := Tryd.underlying0
  a0 := Tryd.isAgg0
  z0 := Tryd.sizeOf0
  v0 := Tryd.zeroValue0
  t3 := Tryd.underlying3
  a3 := Tryd.isAgg3
  z3 := Tryd.sizeOf3
  v3 := Tryd.zeroValue3
  t4 := Tryd.underlying4
  a4 := Tryd.isAgg4
  z4 := Tryd.sizeOf4
  v4 := Tryd.zeroValue4
  t5 := Tryd.underlying5
  a5 := Tryd.isAgg5
  z5 := Tryd.sizeOf5
  v5 := Tryd.zeroValue5
  t9 := Tryd.underlying9
  a9 := Tryd.isAgg9
  z9 := Tryd.sizeOf9
  v9 := Tryd.zeroValue9
  t22 := Tryd.underlying22
  a22 := Tryd.isAgg22
  z22 := Tryd.sizeOf22
  v22 := Tryd.zeroValue22
  t25 := Tryd.underlying73
  a25 := Tryd.isAgg73
  z25 := Tryd.sizeOf73
  v25 := Tryd.zeroValue73
  t39 := Tryd.underlying92
  a39 := Tryd.isAgg92
  z39 := Tryd.sizeOf92
  v39 := Tryd.zeroValue92
  t45 := Tryd.underlying105
  a45 := Tryd.isAgg105
  z45 := Tryd.sizeOf105
  v45 := Tryd.zeroValue105
  t46 := Tryd.underlying106
  a46 := Tryd.isAgg106
  z46 := Tryd.sizeOf106
  v46 := Tryd.zeroValue106
  t50 := Tryd.underlying110
  a50 := Tryd.isAgg110
  z50 := Tryd.sizeOf110
  v50 := Tryd.zeroValue110
  t53 := Tryd.underlying39
  a53 := Tryd.isAgg39
  z53 := Tryd.sizeOf39
  v53 := Tryd.zeroValue39
  t55 := Tryd.underlying114
  a55 := Tryd.isAgg114
  z55 := Tryd.sizeOf114
  v55 := Tryd.zeroValue114
  t66 := Tryd.underlying123
  a66 := Tryd.isAgg123
  z66 := Tryd.sizeOf123
  v66 := Tryd.zeroValue123
  t70 := Tryd.underlying127
  a70 := Tryd.isAgg127
  z70 := Tryd.sizeOf127
  v70 := Tryd.zeroValue127
  t76 := Tryd.underlying134
  a76 := Tryd.isAgg134
  z76 := Tryd.sizeOf134
  v76 := Tryd.zeroValue134
  t77 := Tryd.underlying135
  a77 := Tryd.isAgg135
  z77 := Tryd.sizeOf135
  v77 := Tryd.zeroValue135 }
def sortCp_ren : Go.Shelf.Ren := ⟨fun | 6 => 54 | 15 => 58 | 14 => 69 | 28 => 79 | 29 => 80 | 20 => 85 | 21 => 86 | 22 => 87 | 23 => 88 | 24 => 89 | 25 => 90 | 26 => 91 | 27 => 92 | 46 => 98 | 47 => 94 | 48 => 95 | 49 => 99 | 50 => 100 | 57 => 102 | n => n, fun | 22 => 41 | 24 => 46 | 25 => 89 | 3 => 3 | 39 => 92 | 0 => 0 | 53 => 39 | 55 => 114 | 4 => 4 | 46 => 106 | 45 => 105 | 50 => 110 | 5 => 5 | 9 => 9 | 66 => 123 | 70 => 127 | 76 => 134 | 77 => 135 | n => n, fun | n => n⟩
theorem sortCp : Go.Proofs.SlLaysF0.n6 Tryd.prog sortCp_ren := {
  mixed := by kernel_rfl
  f6 := ⟨Tryd.f54.name, by decide, Tryd.func54.trans (congrArg some (by kernel_rfl))⟩
  f14 := ⟨Tryd.f69.name, by decide, Tryd.func69.trans (congrArg some (by kernel_rfl))⟩
  f15 := Tryd.func58.trans (congrArg some (by kernel_rfl))
  f20 := ⟨Tryd.f85.name, by decide, Tryd.func85.trans (congrArg some (by kernel_rfl))⟩
  f21 := ⟨Tryd.f86.name, by decide, Tryd.func86.trans (congrArg some (by kernel_rfl))⟩
  f22 := ⟨Tryd.f87.name, by decide, Tryd.func87.trans (congrArg some (by kernel_rfl))⟩
  f23 := ⟨Tryd.f88.name, by decide, Tryd.func88.trans (congrArg some (by kernel_rfl))⟩
  f24 := ⟨Tryd.f89.name, by decide, Tryd.func89.trans (congrArg some (by kernel_rfl))⟩
  f25 := ⟨Tryd.f90.name, by decide, Tryd.func90.trans (congrArg some (by kernel_rfl))⟩
  f26 := ⟨Tryd.f91.name, by decide, Tryd.func91.trans (congrArg some (by kernel_rfl))⟩
  f27 := ⟨Tryd.f92.name, by decide, Tryd.func92.trans (congrArg some (by kernel_rfl))⟩
  f28 := Tryd.func79.trans (congrArg some (by kernel_rfl))
  f29 := Tryd.func80.trans (congrArg some (by kernel_rfl))
  f46 := ⟨Tryd.f98.name, by decide, Tryd.func98.trans (congrArg some (by kernel_rfl))⟩
  f47 := Tryd.func94.trans (congrArg some (by kernel_rfl))
  f48 := Tryd.func95.trans (congrArg some (by kernel_rfl))
  f49 := ⟨Tryd.f99.name, by decide, Tryd.func99.trans (congrArg some (by kernel_rfl))⟩
  f50 := ⟨Tryd.f100.name, by decide, Tryd.func100.trans (congrArg some (by kernel_rfl))⟩
  f57 := ⟨Tryd.f102.name, by decide, Tryd.func102.trans (congrArg some (by kernel_rfl))⟩
  t0 := Tryd.underlying0
  a0 := Tryd.isAgg0
  z0 := Tryd.sizeOf0
  v0 := Tryd.zeroValue0
  t3 := Tryd.underlying3
  a3 := Tryd.isAgg3
  z3 := Tryd.sizeOf3
  v3 := Tryd.zeroValue3
  t4 := Tryd.underlying4
  a4 := Tryd.isAgg4
  z4 := Tryd.sizeOf4
  v4 := Tryd.zeroValue4
  t5 := Tryd.underlying5
  a5 := Tryd.isAgg5
  z5 := Tryd.sizeOf5
  v5 := Tryd.zeroValue5
  t9 := Tryd.underlying9
  a9 := Tryd.isAgg9
  z9 := Tryd.sizeOf9
  v9 := Tryd.zeroValue9
  t22 := Tryd.underlying41
  a22 := Tryd.isAgg41
  z22 := Tryd.sizeOf41
  v22 := Tryd.zeroValue41
  t25 := Tryd.underlying89
  a25 := Tryd.isAgg89
  z25 := Tryd.sizeOf89
  v25 := Tryd.zeroValue89
  t39 := Tryd.underlying92
  a39 := Tryd.isAgg92
  z39 := Tryd.sizeOf92
  v39 := Tryd.zeroValue92
  t45 := Tryd.underlying105
  a45 := Tryd.isAgg105
  z45 := Tryd.sizeOf105
  v45 := Tryd.zeroValue105
  t46 := Tryd.underlying106
  a46 := Tryd.isAgg106
  z46 := Tryd.sizeOf106
  v46 := Tryd.zeroValue106
  t50 := Tryd.underlying110
  a50 := Tryd.isAgg110
  z50 := Tryd.sizeOf110
  v50 := Tryd.zeroValue110
  t53 := Tryd.underlying39
  a53 := Tryd.isAgg39
  z53 := Tryd.sizeOf39
  v53 := Tryd.zeroValue39
  t55 := Tryd.underlying114
  a55 := Tryd.isAgg114
  z55 := Tryd.sizeOf114
  v55 := Tryd.zeroValue114
  t66 := Tryd.underlying123
  a66 := Tryd.isAgg123
  z66 := Tryd.sizeOf123
  v66 := Tryd.zeroValue123
  t70 := Tryd.underlying127
  a70 := Tryd.isAgg127
  z70 := Tryd.sizeOf127
  v70 := Tryd.zeroValue127
  t76 := Tryd.underlying134
  a76 := Tryd.isAgg134
  z76 := Tryd.sizeOf134
  v76 := Tryd.zeroValue134
  t77 := Tryd.underlying135
  a77 := Tryd.isAgg135
  z77 := Tryd.sizeOf135
  v77 := Tryd.zeroValue135 }

instance : Inhabited EnE := ⟨⟨0, none, 0, []⟩⟩
def cmpI (a b : Nat) : Int := if a < b then -1 else if b < a then 1 else 0

set_option maxHeartbeats 1000000 in
theorem isNaN_en (x : Int) (w : World) : Calls Tryd.prog 59 #[.int .u32 x] w fun e w' => e = .returned (.bool false) ∧ w' = w := by
  go_enter Tryd.func59, Tryd.ntmps59
  go_wp2
  go_ret
  exact ⟨by simp, rfl⟩
set_option maxHeartbeats 1000000 in
theorem cmp_en (a b : Nat) (w : World) : Calls Tryd.prog 35 #[.int .u32 (a : Int), .int .u32 (b : Int)] w fun e w' => e = .returned (.int .i64 (cmpI a b)) ∧ w' = w := by
  have HN : Hid (∀ (x : Int) W, Calls Tryd.prog 59 #[.int .u32 x] W fun e w' => e = .returned (.bool false) ∧ w' = W) := fun x W => isNaN_en x W
  go_enter Tryd.func35, Tryd.ntmps35
  go_wp2_with fail
  refine (HN.out _ _).mono ?_
  rintro e w1 ⟨rfl, rfl⟩
  go_wp2_with fail
  refine (HN.out _ _).mono ?_
  rintro e w1 ⟨rfl, rfl⟩
  by_cases h1 : a < b
  · have h1' : (a : Int) < (b : Int) := by omega
    go_wp2
    go_ret
    exact ⟨by simp [cmpI, h1], rfl⟩
  · have h1' : ¬ (a : Int) < (b : Int) := by omega
    by_cases h2 : b < a
    · have h2' : (b : Int) < (a : Int) := by omega
      go_wp2
      go_ret
      exact ⟨by simp [cmpI, h1, h2], rfl⟩
    · have h2' : ¬ (b : Int) < (a : Int) := by omega
      go_wp2
      go_ret
      exact ⟨by simp [cmpI, h1, h2], rfl⟩
set_option maxHeartbeats 1000000 in
theorem cls_en (x y : EnE) (W : World) : Calls Tryd.prog 34 #[.agg x.cs.toArray, .agg y.cs.toArray] W fun e w' => e = .returned (.int .i64 (cmpI x.id y.id)) ∧ ∃ q os', w' = grow (W.drewN q) os' := by
  obtain ⟨xi, xa, xc, xC⟩ := x
  obtain ⟨yi, ya, yc, yC⟩ := y
  have HC : Hid (∀ W, Calls Tryd.prog 35 #[.int .u32 (xi : Int), .int .u32 (yi : Int)] W fun e w' => e = .returned (.int .i64 (cmpI xi yi)) ∧ w' = W) := fun W => cmp_en xi yi W
  show Calls Tryd.prog 34 #[.agg #[.int .u32 (xi : Int), .slice xa xC.length xc], .agg #[.int .u32 (yi : Int), .slice ya yC.length yc]] W fun e w' => e = .returned (.int .i64 (cmpI xi yi)) ∧ ∃ q os', w' = grow (W.drewN q) os'
  generalize cmpI xi yi = r at *
  go_enter Tryd.func34, Tryd.ntmps34
  go_wp2_with fail
  refine (HC.out _).mono ?_
  rintro e w1 ⟨rfl, rfl⟩
  go_wp2
  go_ret
  exact ⟨rfl, 0, _, by rw [alloc_eq_grow, alloc_eq_grow, grow_grow]; rfl⟩
theorem lt_en (x y : EnE) : ltOf (fun x y : EnE => cmpI x.id y.id) x y = decide (x.id < y.id) := by
  unfold ltOf cmpI
  by_cases h1 : x.id < y.id
  · simp [h1]
  · by_cases h2 : y.id < x.id <;> simp [h1, h2]
theorem swo_en : SWO (ltOf fun x y : EnE => cmpI x.id y.id) where
  irrefl x := by rw [lt_en]; simp
  trans x y z h1 h2 := by rw [lt_en] at *; simp at *; omega
  ntrans x y z h1 h2 := by rw [lt_en] at *; simp at *; omega
theorem sorts_en (w0 w : World) (l : List Thing) (g cap : Nat) (L : List EnE) (h : Own w0 w (Row 43 2 (.slice (some ⟨g, 0, none⟩) L.length cap) L.length (cat EnE.cs L) :: l)) (hsz : L.length < 1000000000) :
    Calls Tryd.prog 33 #[.slice (some ⟨g, 0, none⟩) L.length cap, .func (.func 34) #[] #[]] w fun e w' => e = .returned (.tuple #[]) ∧ ∃ L', L'.Perm L ∧ L'.Pairwise (fun a b => a.id ≤ b.id) ∧ Own w0 w' (Row 43 2 (.slice (some ⟨g, 0, none⟩) L.length cap) L.length (cat EnE.cs L') :: l) := by
  have eg : ∀ args w, (callFunc 34 args).run Tryd.prog w = .ok (.enter 34 args) w := enters_of Tryd.func34 (by kernel_rfl) rfl
  have hH := Own.holdsK (enc := EnE.cs) (k := 2) (fun _ => rfl) (by decide) h
  have hblk : g < w.heap.size := by
    obtain ⟨h1, h2⟩ := h.row
    rcases h2 with ⟨hv, _⟩ | ⟨g', cap', cur, hv, hb, hgg, _⟩
    · cases hv
    · simp only [Value.slice.injEq, Option.some.injEq, Addr.mk.injEq] at hv
      rw [hv.1.1]
      exact (Array.getElem?_eq_some_iff.1 hgg).1
  have hcon := AnyQ.slices_SortFunc sortEn 2 Tryd.isAgg43 Tryd.sizeOf43 EnE.cs (fun _ => rfl) (fun x v hv => by simp [EnE.cs] at hv; rcases hv with rfl | rfl <;> rfl) (fun x y => cmpI x.id y.id) swo_en 34 #[] g 0 cap L.toArray w eg (fun _ _ _ _ x y => cls_en x y _) hH hblk (by simp; omega)
  change Calls Tryd.prog 33 _ _ _ at hcon
  rw [show L.toArray.size = L.length by simp] at hcon
  refine hcon.mono ?_
  rintro e w' ⟨rfl, d', n, os, hp, hs, rfl⟩
  obtain ⟨hsz1, _, hp3⟩ := hp
  have hd : d'.size = L.length := by rw [hsz1]; simp
  have hperm : d'.toList.Perm L := by
    have e1 : (d'.extract 0 L.length).toList = d'.toList := by rw [← hd]; simp
    have e2 : (L.toArray.extract 0 L.length).toList = L := by simp
    rw [e1, e2] at hp3
    exact hp3
  refine ⟨rfl, d'.toList, hperm, ?_, ?_⟩
  · rw [List.pairwise_iff_getElem]
    intro i j hi hj hij
    have hi' : i < d'.size := by simpa using hi
    have hj' : j < d'.size := by simpa using hj
    have a := hs i j (Nat.zero_le _) hij (by omega)
    rw [lt_en, getElem!_pos d' i hi', getElem!_pos d' j hj'] at a
    simp at a
    simpa using a
  · have hl : d'.toList.length = L.length := by simpa using hd
    have := h.sortK (enc := EnE.cs) (k := 2) (fun _ => rfl) (by decide) hl n os
    rw [hl] at this
    simpa using this
set_option maxHeartbeats 2000000 in
theorem ins_en (w : World) (f : Value) : Calls Tryd.prog 71 #[.slice none 0 0, .int .i64 0, .int .i64 0, f] w fun e w' => e = .returned (.tuple #[]) ∧ w' = w := by
  go_enter Tryd.func71, Tryd.ntmps71
  go_wp2
  go_loopw [8] (fun v wr => v = .int .i64 1 ∧ wr = w) (fun _ _ => 0)
  case atStart => exact ⟨rfl, rfl⟩
  case round =>
    obtain ⟨rfl, rfl⟩ := hrel
    go_wp2
    go_end0
    exact ⟨rfl, rfl⟩
set_option maxHeartbeats 2000000 in
theorem pdq_en (w : World) (lim : Nat) (f : Value) : Calls Tryd.prog 57 #[.slice none 0 0, .int .i64 0, .int .i64 0, .int .i64 (lim : Int), f] w fun e w' => e = .returned (.tuple #[]) ∧ w' = w := by
  have H : Hid (Calls _ _ _ _ _) := ins_en w f
  go_enter Tryd.func57, Tryd.ntmps57
  go_wp2
  go_loopw [1, 2, 3, 10, 11] (fun v1 v2 v3 v8 v9 wr => v1 = .int .i64 0 ∧ v2 = .int .i64 0 ∧ wr = w) (fun _ _ _ _ _ _ => 0)
  case atStart => exact ⟨rfl, rfl, rfl⟩
  case round =>
    obtain ⟨rfl, rfl, rfl⟩ := hrel
    go_wp2_with fail
    refine H.out.mono ?_
    rintro e w1 ⟨rfl, rfl⟩
    go_wp2
    refine bodyPost_ret (results_none rfl _ _ _) rfl ?_
    exact ⟨rfl, rfl⟩
set_option maxHeartbeats 2000000 in
theorem nilS_en (w : World) (f : Value) : Calls Tryd.prog 33 #[.slice none 0 0, f] w fun e w' => e = .returned (.tuple #[]) ∧ w' = w := by
  have HB : Hid (Calls Tryd.prog 58 #[.int .u64 0] w fun e w' => e = .returned (.int .i64 ((Lib.bitLen 0 : Nat) : Int)) ∧ w' = w) := by
    have h := Any.bits_Len (SlLaysF0.n15.bits (P := Tryd.prog) (ρ := sortEn_ren) { sortEn with }) (0 : Int) w (by omega) (by omega)
    exact h
  have HP : Hid (Calls _ _ _ _ _) := pdq_en w (Lib.bitLen 0) f
  generalize Lib.bitLen 0 = lim at *
  go_enter Tryd.func33, Tryd.ntmps33
  go_wp2_with fail
  refine HB.out.mono ?_
  rintro e w1 ⟨rfl, rfl⟩
  go_wp2_with fail
  refine HP.out.mono ?_
  rintro e w1 ⟨rfl, rfl⟩
  go_wp2
  go_end0
  exact ⟨rfl, rfl⟩
theorem sort_en (w0 w : World) (l : List Thing) (ao : Option Addr) (cap : Nat) (L : List EnE) (h : Own w0 w (Row 43 2 (.slice ao L.length cap) L.length (cat EnE.cs L) :: l)) (hsz : L.length < 1000000000) :
    Calls Tryd.prog 33 #[.slice ao L.length cap, .func (.func 34) #[] #[]] w fun e w' => e = .returned (.tuple #[]) ∧ ∃ L', L'.Perm L ∧ L'.Pairwise (fun a b => a.id ≤ b.id) ∧ Own w0 w' (Row 43 2 (.slice ao L.length cap) L.length (cat EnE.cs L') :: l) := by
  rcases h.row.2 with ⟨hv, hn⟩ | ⟨g, cap', cur, hv, _⟩
  · have hL : L = [] := List.eq_nil_of_length_eq_zero hn
    subst hL
    simp only [List.length_nil, Value.slice.injEq] at hv
    obtain ⟨rfl, _, rfl⟩ := hv
    refine (nilS_en w _).mono ?_
    rintro e w' ⟨rfl, rfl⟩
    exact ⟨rfl, [], List.Perm.refl _, List.Pairwise.nil, h⟩
  · have hva := (Value.slice.inj hv).1
    subst hva
    exact sorts_en w0 w l g cap L h hsz

set_option maxHeartbeats 1000000 in
theorem isNaN_cp (x : Int) (w : World) : Calls Tryd.prog 70 #[.int .u8 x] w fun e w' => e = .returned (.bool false) ∧ w' = w := by
  go_enter Tryd.func70, Tryd.ntmps70
  go_wp2
  go_ret
  exact ⟨by simp, rfl⟩
set_option maxHeartbeats 1000000 in
theorem cmp_cp (a b : Nat) (w : World) : Calls Tryd.prog 56 #[.int .u8 (a : Int), .int .u8 (b : Int)] w fun e w' => e = .returned (.int .i64 (cmpI a b)) ∧ w' = w := by
  have HN : Hid (∀ (x : Int) W, Calls Tryd.prog 70 #[.int .u8 x] W fun e w' => e = .returned (.bool false) ∧ w' = W) := fun x W => isNaN_cp x W
  go_enter Tryd.func56, Tryd.ntmps56
  go_wp2_with fail
  refine (HN.out _ _).mono ?_
  rintro e w1 ⟨rfl, rfl⟩
  go_wp2_with fail
  refine (HN.out _ _).mono ?_
  rintro e w1 ⟨rfl, rfl⟩
  by_cases h1 : a < b
  · have h1' : (a : Int) < (b : Int) := by omega
    go_wp2
    go_ret
    exact ⟨by simp [cmpI, h1], rfl⟩
  · have h1' : ¬ (a : Int) < (b : Int) := by omega
    by_cases h2 : b < a
    · have h2' : (b : Int) < (a : Int) := by omega
      go_wp2
      go_ret
      exact ⟨by simp [cmpI, h1, h2], rfl⟩
    · have h2' : ¬ (b : Int) < (a : Int) := by omega
      go_wp2
      go_ret
      exact ⟨by simp [cmpI, h1, h2], rfl⟩
set_option maxHeartbeats 1000000 in
theorem cls_cp (x y : Cp) (W : World) : Calls Tryd.prog 55 #[.agg x.cs.toArray, .agg y.cs.toArray] W fun e w' => e = .returned (.int .i64 (cmpI x.k y.k)) ∧ ∃ q os', w' = grow (W.drewN q) os' := by
  obtain ⟨xi, xa, xb, xc⟩ := x
  obtain ⟨yi, ya, yb, yc⟩ := y
  have HC : Hid (∀ W, Calls Tryd.prog 56 #[.int .u8 (xi : Int), .int .u8 (yi : Int)] W fun e w' => e = .returned (.int .i64 (cmpI xi yi)) ∧ w' = W) := fun W => cmp_cp xi yi W
  show Calls Tryd.prog 55 #[.agg #[.int .u8 (xi : Int), .int .i32 xa, .int .i32 xb, .int .i32 xc], .agg #[.int .u8 (yi : Int), .int .i32 ya, .int .i32 yb, .int .i32 yc]] W fun e w' => e = .returned (.int .i64 (cmpI xi yi)) ∧ ∃ q os', w' = grow (W.drewN q) os'
  generalize cmpI xi yi = r at *
  go_enter Tryd.func55, Tryd.ntmps55
  go_wp2_with fail
  refine (HC.out _).mono ?_
  rintro e w1 ⟨rfl, rfl⟩
  go_wp2
  go_ret
  exact ⟨rfl, 0, _, by rw [alloc_eq_grow, alloc_eq_grow, grow_grow]; rfl⟩
theorem lt_cp (x y : Cp) : ltOf (fun x y : Cp => cmpI x.k y.k) x y = decide (x.k < y.k) := by
  unfold ltOf cmpI
  by_cases h1 : x.k < y.k
  · simp [h1]
  · by_cases h2 : y.k < x.k <;> simp [h1, h2]
theorem swo_cp : SWO (ltOf fun x y : Cp => cmpI x.k y.k) where
  irrefl x := by rw [lt_cp]; simp
  trans x y z h1 h2 := by rw [lt_cp] at *; simp at *; omega
  ntrans x y z h1 h2 := by rw [lt_cp] at *; simp at *; omega
theorem sorts_cp (w0 w : World) (l : List Thing) (g cap : Nat) (L : List Cp) (h : Own w0 w (Row 46 4 (.slice (some ⟨g, 0, none⟩) L.length cap) L.length (cat Cp.cs L) :: l)) (hsz : L.length < 1000000000) :
    Calls Tryd.prog 54 #[.slice (some ⟨g, 0, none⟩) L.length cap, .func (.func 55) #[] #[]] w fun e w' => e = .returned (.tuple #[]) ∧ ∃ L', L'.Perm L ∧ L'.Pairwise (fun a b => a.k ≤ b.k) ∧ Own w0 w' (Row 46 4 (.slice (some ⟨g, 0, none⟩) L.length cap) L.length (cat Cp.cs L') :: l) := by
  have eg : ∀ args w, (callFunc 55 args).run Tryd.prog w = .ok (.enter 55 args) w := enters_of Tryd.func55 (by kernel_rfl) rfl
  have hH := Own.holdsK (enc := Cp.cs) (k := 4) (fun _ => rfl) (by decide) h
  have hblk : g < w.heap.size := by
    obtain ⟨h1, h2⟩ := h.row
    rcases h2 with ⟨hv, _⟩ | ⟨g', cap', cur, hv, hb, hgg, _⟩
    · cases hv
    · simp only [Value.slice.injEq, Option.some.injEq, Addr.mk.injEq] at hv
      rw [hv.1.1]
      exact (Array.getElem?_eq_some_iff.1 hgg).1
  have hcon := AnyQ.slices_SortFunc sortCp 4 Tryd.isAgg46 Tryd.sizeOf46 Cp.cs (fun _ => rfl) (fun x v hv => by simp [Cp.cs] at hv; rcases hv with rfl | rfl | rfl | rfl <;> rfl) (fun x y => cmpI x.k y.k) swo_cp 55 #[] g 0 cap L.toArray w eg (fun _ _ _ _ x y => cls_cp x y _) hH hblk (by simp; omega)
  change Calls Tryd.prog 54 _ _ _ at hcon
  rw [show L.toArray.size = L.length by simp] at hcon
  refine hcon.mono ?_
  rintro e w' ⟨rfl, d', n, os, hp, hs, rfl⟩
  obtain ⟨hsz1, _, hp3⟩ := hp
  have hd : d'.size = L.length := by rw [hsz1]; simp
  have hperm : d'.toList.Perm L := by
    have e1 : (d'.extract 0 L.length).toList = d'.toList := by rw [← hd]; simp
    have e2 : (L.toArray.extract 0 L.length).toList = L := by simp
    rw [e1, e2] at hp3
    exact hp3
  refine ⟨rfl, d'.toList, hperm, ?_, ?_⟩
  · rw [List.pairwise_iff_getElem]
    intro i j hi hj hij
    have hi' : i < d'.size := by simpa using hi
    have hj' : j < d'.size := by simpa using hj
    have a := hs i j (Nat.zero_le _) hij (by omega)
    rw [lt_cp, getElem!_pos d' i hi', getElem!_pos d' j hj'] at a
    simp at a
    simpa using a
  · have hl : d'.toList.length = L.length := by simpa using hd
    have := h.sortK (enc := Cp.cs) (k := 4) (fun _ => rfl) (by decide) hl n os
    rw [hl] at this
    simpa using this
set_option maxHeartbeats 2000000 in
theorem ins_cp (w : World) (f : Value) : Calls Tryd.prog 85 #[.slice none 0 0, .int .i64 0, .int .i64 0, f] w fun e w' => e = .returned (.tuple #[]) ∧ w' = w := by
  go_enter Tryd.func85, Tryd.ntmps85
  go_wp2
  go_loopw [8] (fun v wr => v = .int .i64 1 ∧ wr = w) (fun _ _ => 0)
  case atStart => exact ⟨rfl, rfl⟩
  case round =>
    obtain ⟨rfl, rfl⟩ := hrel
    go_wp2
    go_end0
    exact ⟨rfl, rfl⟩
set_option maxHeartbeats 2000000 in
theorem pdq_cp (w : World) (lim : Nat) (f : Value) : Calls Tryd.prog 69 #[.slice none 0 0, .int .i64 0, .int .i64 0, .int .i64 (lim : Int), f] w fun e w' => e = .returned (.tuple #[]) ∧ w' = w := by
  have H : Hid (Calls _ _ _ _ _) := ins_cp w f
  go_enter Tryd.func69, Tryd.ntmps69
  go_wp2
  go_loopw [1, 2, 3, 10, 11] (fun v1 v2 v3 v8 v9 wr => v1 = .int .i64 0 ∧ v2 = .int .i64 0 ∧ wr = w) (fun _ _ _ _ _ _ => 0)
  case atStart => exact ⟨rfl, rfl, rfl⟩
  case round =>
    obtain ⟨rfl, rfl, rfl⟩ := hrel
    go_wp2_with fail
    refine H.out.mono ?_
    rintro e w1 ⟨rfl, rfl⟩
    go_wp2
    refine bodyPost_ret (results_none rfl _ _ _) rfl ?_
    exact ⟨rfl, rfl⟩
set_option maxHeartbeats 2000000 in
theorem nilS_cp (w : World) (f : Value) : Calls Tryd.prog 54 #[.slice none 0 0, f] w fun e w' => e = .returned (.tuple #[]) ∧ w' = w := by
  have HB : Hid (Calls Tryd.prog 58 #[.int .u64 0] w fun e w' => e = .returned (.int .i64 ((Lib.bitLen 0 : Nat) : Int)) ∧ w' = w) := by
    have h := Any.bits_Len (SlLaysF0.n15.bits (P := Tryd.prog) (ρ := sortCp_ren) { sortCp with }) (0 : Int) w (by omega) (by omega)
    exact h
  have HP : Hid (Calls _ _ _ _ _) := pdq_cp w (Lib.bitLen 0) f
  generalize Lib.bitLen 0 = lim at *
  go_enter Tryd.func54, Tryd.ntmps54
  go_wp2_with fail
  refine HB.out.mono ?_
  rintro e w1 ⟨rfl, rfl⟩
  go_wp2_with fail
  refine HP.out.mono ?_
  rintro e w1 ⟨rfl, rfl⟩
  go_wp2
  go_end0
  exact ⟨rfl, rfl⟩
theorem sort_cp (w0 w : World) (l : List Thing) (ao : Option Addr) (cap : Nat) (L : List Cp) (h : Own w0 w (Row 46 4 (.slice ao L.length cap) L.length (cat Cp.cs L) :: l)) (hsz : L.length < 1000000000) :
    Calls Tryd.prog 54 #[.slice ao L.length cap, .func (.func 55) #[] #[]] w fun e w' => e = .returned (.tuple #[]) ∧ ∃ L', L'.Perm L ∧ L'.Pairwise (fun a b => a.k ≤ b.k) ∧ Own w0 w' (Row 46 4 (.slice ao L.length cap) L.length (cat Cp.cs L') :: l) := by
  rcases h.row.2 with ⟨hv, hn⟩ | ⟨g, cap', cur, hv, _⟩
  · have hL : L = [] := List.eq_nil_of_length_eq_zero hn
    subst hL
    simp only [List.length_nil, Value.slice.injEq] at hv
    obtain ⟨rfl, _, rfl⟩ := hv
    refine (nilS_cp w _).mono ?_
    rintro e w' ⟨rfl, rfl⟩
    exact ⟨rfl, [], List.Perm.refl _, List.Pairwise.nil, h⟩
  · have hva := (Value.slice.inj hv).1
    subst hva
    exact sorts_cp w0 w l g cap L h hsz
end Go.Proofs.YtkjanpjlpieaoaaDoor

