/-
  Entities sorted by their IDs, components by their kinds.
-/
import Derived.Test.YtbencjopjdjepaaGreatDoorM42
import Derived.Test.YtbencjopjdjepaaGreatDoorM16
import Derived.Shelf.SlGeneric
namespace Go.Proofs.YtbencjopjdjepaaGreatDoor
open Go.RowKit Go.Sort Go.Shelf
set_option linter.unusedVariables false
set_option maxRecDepth 100000

def sortEn_ren : Go.Shelf.Ren := ⟨fun | 6 => 205 | 15 => 230 | 14 => 229 | 28 => 249 | 29 => 188 | 20 => 241 | 21 => 242 | 22 => 243 | 23 => 244 | 24 => 245 | 25 => 246 | 26 => 247 | 27 => 248 | 46 => 260 | 47 => 261 | 48 => 262 | 49 => 263 | 50 => 264 | 57 => 268 | n => n, fun | 22 => 25 | 24 => 65 | 25 => 286 | 3 => 3 | 39 => 188 | 0 => 0 | 53 => 22 | 55 => 106 | 4 => 4 | 46 => 313 | 45 => 312 | 50 => 274 | 5 => 5 | 9 => 9 | 66 => 323 | 70 => 326 | 76 => 330 | 77 => 331 | n => n, fun | n => n⟩
theorem sortEn : Go.Proofs.SlLaysF0.n6 Tryz.prog sortEn_ren := {
  mixed := by kernel_rfl
  f6 := ⟨Tryz.f205.name, by decide, Tryz.func205.trans (congrArg some (by kernel_rfl))⟩
  f14 := ⟨Tryz.f229.name, by decide, Tryz.func229.trans (congrArg some (by kernel_rfl))⟩
  f15 := Tryz.func230.trans (congrArg some (by kernel_rfl))
  f20 := ⟨Tryz.f241.name, by decide, Tryz.func241.trans (congrArg some (by kernel_rfl))⟩
  f21 := ⟨Tryz.f242.name, by decide, Tryz.func242.trans (congrArg some (by kernel_rfl))⟩
  f22 := ⟨Tryz.f243.name, by decide, Tryz.func243.trans (congrArg some (by kernel_rfl))⟩
  f23 := ⟨Tryz.f244.name, by decide, Tryz.func244.trans (congrArg some (by kernel_rfl))⟩
  f24 := ⟨Tryz.f245.name, by decide, Tryz.func245.trans (congrArg some (by kernel_rfl))⟩
  f25 := ⟨Tryz.f246.name, by decide, Tryz.func246.trans (congrArg some (by kernel_rfl))⟩
  f26 := ⟨Tryz.f247.name, by decide, Tryz.func247.trans (congrArg some (by kernel_rfl))⟩
  f27 := ⟨Tryz.f248.name, by decide, Tryz.func248.trans (congrArg some (by kernel_rfl))⟩
  f28 := Tryz.func249.trans (congrArg some (by kernel_rfl))
  f29 := Tryz.func188.trans (congrArg some (by kernel_rfl))
  f46 := ⟨Tryz.f260.name, by decide, Tryz.func260.trans (congrArg some (by kernel_rfl))⟩
  f47 := Tryz.func261.trans (congrArg some (by kernel_rfl))
  f48 := Tryz.func262.trans (congrArg some (by kernel_rfl))
  f49 := ⟨Tryz.f263.name, by decide, Tryz.func263.trans (congrArg some (by kernel_rfl))⟩
  f50 := ⟨Tryz.f264.name, by decide, Tryz.func264.trans (congrArg some (by kernel_rfl))⟩
  f57 := ⟨Tryz.f268.name, by decide, Tryz.func268.trans (congrArg some (by kernel_rfl))⟩
  t0 := Tryz.underlying0
  a0 := Tryz.isAgg0
  z0 := Tryz.sizeOf0
  v0 := Tryz.zeroValue0
  t3 := Tryz.underlying3
  a3 := Tryz.isAgg3
  z3 := Tryz.sizeOf3
  v3 := Tryz.zeroValue3
  t4 := Tryz.underlying4
  a4 := Tryz.isAgg4
  z4 := Tryz.sizeOf4
  v4 := Tryz.zeroValue4
  t5 := Tryz.underlying5
  a5 := Tryz.isAgg5
  z5 := Tryz.sizeOf5
  v5 := Tryz.zeroValue5
  t9 := Tryz.underlying9
  a9 := Tryz.isAgg9
  z9 := Tryz.sizeOf9
  v9 := Tryz.zeroValue9
  t22 := Tryz.underlying25
  a22 := Tryz.isAgg25
  z22 := Tryz.sizeOf25
  v22 := Tryz.zeroValue25
  t25 := Tryz.underlying286
  a25 := Tryz.isAgg286
  z25 := Tryz.sizeOf286
  v25 := Tryz.zeroValue286
  t39 := Tryz.underlying188
  a39 := Tryz.isAgg188
  z39 := Tryz.sizeOf188
  v39 := Tryz.zeroValue188
  t45 := Tryz.underlying312
  a45 := Tryz.isAgg312
  z45 := Tryz.sizeOf312
  v45 := Tryz.zeroValue312
  t46 := Tryz.underlying313
  a46 := Tryz.isAgg313
  z46 := Tryz.sizeOf313
  v46 := Tryz.zeroValue313
  t50 := Tryz.underlying274
  a50 := Tryz.isAgg274
  z50 := Tryz.sizeOf274
  v50 := Tryz.zeroValue274
  t53 := Tryz.underlying22
  a53 := Tryz.isAgg22
  z53 := Tryz.sizeOf22
  v53 := Tryz.zeroValue22
  t55 := Tryz.underlying106
  a55 := Tryz.isAgg106
  z55 := Tryz.sizeOf106
  v55 := Tryz.zeroValue106
  t66 := Tryz.underlying323
  a66 := Tryz.isAgg323
  z66 := Tryz.sizeOf323
  v66 := Tryz.zeroValue323
  t70 := Tryz.underlying326
  a70 := Tryz.isAgg326
  z70 := Tryz.sizeOf326
  v70 := Tryz.zeroValue326
  t76 := Tryz.underlying330
  a76 := Tryz.isAgg330
  z76 := Tryz.sizeOf330
  v76 := Tryz.zeroValue330
  t77 := Tryz.underlying331
  a77 := Tryz.isAgg331
  z77 := Tryz.sizeOf331
  v77 := Tryz.zeroValue331 }
def sortCp_ren : Go.Shelf.Ren := ⟨fun | 6 => 226 | 15 => 230 | 14 => 239 | 28 => 249 | 29 => 188 | 20 => 252 | 21 => 253 | 22 => 254 | 23 => 255 | 24 => 256 | 25 => 257 | 26 => 258 | 27 => 259 | 46 => 265 | 47 => 261 | 48 => 262 | 49 => 266 | 50 => 267 | 57 => 269 | n => n, fun | 22 => 63 | 24 => 68 | 25 => 292 | 3 => 3 | 39 => 188 | 0 => 0 | 53 => 22 | 55 => 106 | 4 => 4 | 46 => 313 | 45 => 312 | 50 => 274 | 5 => 5 | 9 => 9 | 66 => 323 | 70 => 326 | 76 => 330 | 77 => 331 | n => n, fun | n => n⟩
theorem sortCp : Go.Proofs.SlLaysF0.n6 Tryz.prog sortCp_ren := {
  mixed := by kernel_rfl
  f6 := ⟨Tryz.f226.name, by decide, Tryz.func226.trans (congrArg some (by kernel_rfl))⟩
  f14 := ⟨Tryz.f239.name, by decide, Tryz.func239.trans (congrArg some (by kernel_rfl))⟩
  f15 := Tryz.func230.trans (congrArg some (by kernel_rfl))
  f20 := ⟨Tryz.f252.name, by decide, Tryz.func252.trans (congrArg some (by kernel_rfl))⟩
  f21 := ⟨Tryz.f253.name, by decide, Tryz.func253.trans (congrArg some (by kernel_rfl))⟩
  f22 := ⟨Tryz.f254.name, by decide, Tryz.func254.trans (congrArg some (by kernel_rfl))⟩
  f23 := ⟨Tryz.f255.name, by decide, Tryz.func255.trans (congrArg some (by kernel_rfl))⟩
  f24 := ⟨Tryz.f256.name, by decide, Tryz.func256.trans (congrArg some (by kernel_rfl))⟩
  f25 := ⟨Tryz.f257.name, by decide, Tryz.func257.trans (congrArg some (by kernel_rfl))⟩
  f26 := ⟨Tryz.f258.name, by decide, Tryz.func258.trans (congrArg some (by kernel_rfl))⟩
  f27 := ⟨Tryz.f259.name, by decide, Tryz.func259.trans (congrArg some (by kernel_rfl))⟩
  f28 := Tryz.func249.trans (congrArg some (by kernel_rfl))
  f29 := Tryz.func188.trans (congrArg some (by kernel_rfl))
  f46 := ⟨Tryz.f265.name, by decide, Tryz.func265.trans (congrArg some (by kernel_rfl))⟩
  f47 := Tryz.func261.trans (congrArg some (by kernel_rfl))
  f48 := Tryz.func262.trans (congrArg some (by kernel_rfl))
  f49 := ⟨Tryz.f266.name, by decide, Tryz.func266.trans (congrArg some (by kernel_rfl))⟩
  f50 := ⟨Tryz.f267.name, by decide, Tryz.func267.trans (congrArg some (by kernel_rfl))⟩
  f57 := ⟨Tryz.f269.name, by decide, Tryz.func269.trans (congrArg some (by kernel_rfl))⟩
  t0 := Tryz.underlying0
  a0 := Tryz.isAgg0
  z0 := Tryz.sizeOf0
  v0 := Tryz.zeroValue0
  t3 := Tryz.underlying3
  a3 := Tryz.isAgg3
  z3 := Tryz.sizeOf3
  v3 := Tryz.zeroValue3
  t4 := Tryz.underlying4
  a4 := Tryz.isAgg4
  z4 := Tryz.sizeOf4
  v4 := Tryz.zeroValue4
  t5 := Tryz.underlying5
  a5 := Tryz.isAgg5
  z5 := Tryz.sizeOf5
  v5 := Tryz.zeroValue5
  t9 := Tryz.underlying9
  a9 := Tryz.isAgg9
  z9 := Tryz.sizeOf9
  v9 := Tryz.zeroValue9
  t22 := Tryz.underlying63
  a22 := Tryz.isAgg63
  z22 := Tryz.sizeOf63
  v22 := Tryz.zeroValue63
  t25 := Tryz.underlying292
  a25 := Tryz.isAgg292
  z25 := Tryz.sizeOf292
  v25 := Tryz.zeroValue292
  t39 := Tryz.underlying188
  a39 := Tryz.isAgg188
  z39 := Tryz.sizeOf188
  v39 := Tryz.zeroValue188
  t45 := Tryz.underlying312
  a45 := Tryz.isAgg312
  z45 := Tryz.sizeOf312
  v45 := Tryz.zeroValue312
  t46 := Tryz.underlying313
  a46 := Tryz.isAgg313
  z46 := Tryz.sizeOf313
  v46 := Tryz.zeroValue313
  t50 := Tryz.underlying274
  a50 := Tryz.isAgg274
  z50 := Tryz.sizeOf274
  v50 := Tryz.zeroValue274
  t53 := Tryz.underlying22
  a53 := Tryz.isAgg22
  z53 := Tryz.sizeOf22
  v53 := Tryz.zeroValue22
  t55 := Tryz.underlying106
  a55 := Tryz.isAgg106
  z55 := Tryz.sizeOf106
  v55 := Tryz.zeroValue106
  t66 := Tryz.underlying323
  a66 := Tryz.isAgg323
  z66 := Tryz.sizeOf323
  v66 := Tryz.zeroValue323
  t70 := Tryz.underlying326
  a70 := Tryz.isAgg326
  z70 := Tryz.sizeOf326
  v70 := Tryz.zeroValue326
  t76 := Tryz.underlying330
  a76 := Tryz.isAgg330
  z76 := Tryz.sizeOf330
  v76 := Tryz.zeroValue330
  t77 := Tryz.underlying331
  a77 := Tryz.isAgg331
  z77 := Tryz.sizeOf331
  v77 := Tryz.zeroValue331 }

instance : Inhabited EnE := ⟨⟨0, none, 0, []⟩⟩
def cmpI (a b : Nat) : Int := if a < b then -1 else if b < a then 1 else 0

set_option maxHeartbeats 1000000 in
theorem isNaN_en (x : Int) (w : World) : Calls Tryz.prog 216 #[.int .u32 x] w fun e w' => e = .returned (.bool false) ∧ w' = w := by
  go_enter Tryz.func216, Tryz.ntmps216
  go_wp2
  go_ret
  exact ⟨by simp, rfl⟩
set_option maxHeartbeats 1000000 in
theorem cmp_en (a b : Nat) (w : World) : Calls Tryz.prog 198 #[.int .u32 (a : Int), .int .u32 (b : Int)] w fun e w' => e = .returned (.int .i64 (cmpI a b)) ∧ w' = w := by
  have HN : Hid (∀ (x : Int) W, Calls Tryz.prog 216 #[.int .u32 x] W fun e w' => e = .returned (.bool false) ∧ w' = W) := fun x W => isNaN_en x W
  go_enter Tryz.func198, Tryz.ntmps198
  go_wp2_with fail
  refine (HN.out _ _).mono ?_
  rintro e w1 ⟨rfl, rfl⟩
  go_wp2_with fail
  refine (HN.out _ _).mono ?_
  rintro e w1 ⟨rfl, rfl⟩
  by_cases h1 : a < b
  · have h1' : (a : Int) < (b : Int) := by omega
    go_wp2
    go_ret
    exact ⟨by simp [cmpI, h1], rfl⟩
  · have h1' : ¬ (a : Int) < (b : Int) := by omega
    by_cases h2 : b < a
    · have h2' : (b : Int) < (a : Int) := by omega
      go_wp2
      go_ret
      exact ⟨by simp [cmpI, h1, h2], rfl⟩
    · have h2' : ¬ (b : Int) < (a : Int) := by omega
      go_wp2
      go_ret
      exact ⟨by simp [cmpI, h1, h2], rfl⟩
set_option maxHeartbeats 1000000 in
theorem cls_en (x y : EnE) (W : World) : Calls Tryz.prog 206 #[.agg x.cs.toArray, .agg y.cs.toArray] W fun e w' => e = .returned (.int .i64 (cmpI x.id y.id)) ∧ ∃ q os', w' = grow (W.drewN q) os' := by
  obtain ⟨xi, xa, xc, xC⟩ := x
  obtain ⟨yi, ya, yc, yC⟩ := y
  have HC : Hid (∀ W, Calls Tryz.prog 198 #[.int .u32 (xi : Int), .int .u32 (yi : Int)] W fun e w' => e = .returned (.int .i64 (cmpI xi yi)) ∧ w' = W) := fun W => cmp_en xi yi W
  show Calls Tryz.prog 206 #[.agg #[.int .u32 (xi : Int), .slice xa xC.length xc], .agg #[.int .u32 (yi : Int), .slice ya yC.length yc]] W fun e w' => e = .returned (.int .i64 (cmpI xi yi)) ∧ ∃ q os', w' = grow (W.drewN q) os'
  generalize cmpI xi yi = r at *
  go_enter Tryz.func206, Tryz.ntmps206
  go_wp2_with fail
  refine (HC.out _).mono ?_
  rintro e w1 ⟨rfl, rfl⟩
  go_wp2
  go_ret
  exact ⟨rfl, 0, _, by rw [alloc_eq_grow, alloc_eq_grow, grow_grow]; rfl⟩
theorem lt_en (x y : EnE) : ltOf (fun x y : EnE => cmpI x.id y.id) x y = decide (x.id < y.id) := by
  unfold ltOf cmpI
  by_cases h1 : x.id < y.id
  · simp [h1]
  · by_cases h2 : y.id < x.id <;> simp [h1, h2]
theorem swo_en : SWO (ltOf fun x y : EnE => cmpI x.id y.id) where
  irrefl x := by rw [lt_en]; simp
  trans x y z h1 h2 := by rw [lt_en] at *; simp at *; omega
  ntrans x y z h1 h2 := by rw [lt_en] at *; simp at *; omega
theorem sorts_en (w0 w : World) (l : List Thing) (g cap : Nat) (L : List EnE) (h : Own w0 w (Row 65 2 (.slice (some ⟨g, 0, none⟩) L.length cap) L.length (cat EnE.cs L) :: l)) (hsz : L.length < 1000000000) :
    Calls Tryz.prog 205 #[.slice (some ⟨g, 0, none⟩) L.length cap, .func (.func 206) #[] #[]] w fun e w' => e = .returned (.tuple #[]) ∧ ∃ L', L'.Perm L ∧ L'.Pairwise (fun a b => a.id ≤ b.id) ∧ Own w0 w' (Row 65 2 (.slice (some ⟨g, 0, none⟩) L.length cap) L.length (cat EnE.cs L') :: l) := by
  have eg : ∀ args w, (callFunc 206 args).run Tryz.prog w = .ok (.enter 206 args) w := enters_of Tryz.func206 (by kernel_rfl) rfl
  have hH := Own.holdsK (enc := EnE.cs) (k := 2) (fun _ => rfl) (by decide) h
  have hblk : g < w.heap.size := by
    obtain ⟨h1, h2⟩ := h.row
    rcases h2 with ⟨hv, _⟩ | ⟨g', cap', cur, hv, hb, hgg, _⟩
    · cases hv
    · simp only [Value.slice.injEq, Option.some.injEq, Addr.mk.injEq] at hv
      rw [hv.1.1]
      exact (Array.getElem?_eq_some_iff.1 hgg).1
  have hcon := AnyQ.slices_SortFunc sortEn 2 Tryz.isAgg65 Tryz.sizeOf65 EnE.cs (fun _ => rfl) (fun x v hv => by simp [EnE.cs] at hv; rcases hv with rfl | rfl <;> rfl) (fun x y => cmpI x.id y.id) swo_en 206 #[] g 0 cap L.toArray w eg (fun _ _ _ _ x y => cls_en x y _) hH hblk (by simp; omega)
  change Calls Tryz.prog 205 _ _ _ at hcon
  rw [show L.toArray.size = L.length by simp] at hcon
  refine hcon.mono ?_
  rintro e w' ⟨rfl, d', n, os, hp, hs, rfl⟩
  obtain ⟨hsz1, _, hp3⟩ := hp
  have hd : d'.size = L.length := by rw [hsz1]; simp
  have hperm : d'.toList.Perm L := by
    have e1 : (d'.extract 0 L.length).toList = d'.toList := by rw [← hd]; simp
    have e2 : (L.toArray.extract 0 L.length).toList = L := by simp
    rw [e1, e2] at hp3
    exact hp3
  refine ⟨rfl, d'.toList, hperm, ?_, ?_⟩
  · rw [List.pairwise_iff_getElem]
    intro i j hi hj hij
    have hi' : i < d'.size := by simpa using hi
    have hj' : j < d'.size := by simpa using hj
    have a := hs i j (Nat.zero_le _) hij (by omega)
    rw [lt_en, getElem!_pos d' i hi', getElem!_pos d' j hj'] at a
    simp at a
    simpa using a
  · have hl : d'.toList.length = L.length := by simpa using hd
    have := h.sortK (enc := EnE.cs) (k := 2) (fun _ => rfl) (by decide) hl n os
    rw [hl] at this
    simpa using this
set_option maxHeartbeats 2000000 in
theorem ins_en (w : World) (f : Value) : Calls Tryz.prog 241 #[.slice none 0 0, .int .i64 0, .int .i64 0, f] w fun e w' => e = .returned (.tuple #[]) ∧ w' = w := by
  go_enter Tryz.func241, Tryz.ntmps241
  go_wp2
  go_loopw [8] (fun v wr => v = .int .i64 1 ∧ wr = w) (fun _ _ => 0)
  case atStart => exact ⟨rfl, rfl⟩
  case round =>
    obtain ⟨rfl, rfl⟩ := hrel
    go_wp2
    go_end0
    exact ⟨rfl, rfl⟩
set_option maxHeartbeats 2000000 in
theorem pdq_en (w : World) (lim : Nat) (f : Value) : Calls Tryz.prog 229 #[.slice none 0 0, .int .i64 0, .int .i64 0, .int .i64 (lim : Int), f] w fun e w' => e = .returned (.tuple #[]) ∧ w' = w := by
  have H : Hid (Calls _ _ _ _ _) := ins_en w f
  go_enter Tryz.func229, Tryz.ntmps229
  go_wp2
  go_loopw [1, 2, 3, 10, 11] (fun v1 v2 v3 v8 v9 wr => v1 = .int .i64 0 ∧ v2 = .int .i64 0 ∧ wr = w) (fun _ _ _ _ _ _ => 0)
  case atStart => exact ⟨rfl, rfl, rfl⟩
  case round =>
    obtain ⟨rfl, rfl, rfl⟩ := hrel
    go_wp2_with fail
    refine H.out.mono ?_
    rintro e w1 ⟨rfl, rfl⟩
    go_wp2
    refine bodyPost_ret (results_none rfl _ _ _) rfl ?_
    exact ⟨rfl, rfl⟩
set_option maxHeartbeats 2000000 in
theorem nilS_en (w : World) (f : Value) : Calls Tryz.prog 205 #[.slice none 0 0, f] w fun e w' => e = .returned (.tuple #[]) ∧ w' = w := by
  have HB : Hid (Calls Tryz.prog 230 #[.int .u64 0] w fun e w' => e = .returned (.int .i64 ((Lib.bitLen 0 : Nat) : Int)) ∧ w' = w) := by
    have h := Any.bits_Len (SlLaysF0.n15.bits (P := Tryz.prog) (ρ := sortEn_ren) { sortEn with }) (0 : Int) w (by omega) (by omega)
    exact h
  have HP : Hid (Calls _ _ _ _ _) := pdq_en w (Lib.bitLen 0) f
  generalize Lib.bitLen 0 = lim at *
  go_enter Tryz.func205, Tryz.ntmps205
  go_wp2_with fail
  refine HB.out.mono ?_
  rintro e w1 ⟨rfl, rfl⟩
  go_wp2_with fail
  refine HP.out.mono ?_
  rintro e w1 ⟨rfl, rfl⟩
  go_wp2
  go_end0
  exact ⟨rfl, rfl⟩
theorem sort_en (w0 w : World) (l : List Thing) (ao : Option Addr) (cap : Nat) (L : List EnE) (h : Own w0 w (Row 65 2 (.slice ao L.length cap) L.length (cat EnE.cs L) :: l)) (hsz : L.length < 1000000000) :
    Calls Tryz.prog 205 #[.slice ao L.length cap, .func (.func 206) #[] #[]] w fun e w' => e = .returned (.tuple #[]) ∧ ∃ L', L'.Perm L ∧ L'.Pairwise (fun a b => a.id ≤ b.id) ∧ Own w0 w' (Row 65 2 (.slice ao L.length cap) L.length (cat EnE.cs L') :: l) := by
  rcases h.row.2 with ⟨hv, hn⟩ | ⟨g, cap', cur, hv, _⟩
  · have hL : L = [] := List.eq_nil_of_length_eq_zero hn
    subst hL
    simp only [List.length_nil, Value.slice.injEq] at hv
    obtain ⟨rfl, _, rfl⟩ := hv
    refine (nilS_en w _).mono ?_
    rintro e w' ⟨rfl, rfl⟩
    exact ⟨rfl, [], List.Perm.refl _, List.Pairwise.nil, h⟩
  · have hva := (Value.slice.inj hv).1
    subst hva
    exact sorts_en w0 w l g cap L h hsz

set_option maxHeartbeats 1000000 in
theorem isNaN_cp (x : Int) (w : World) : Calls Tryz.prog 240 #[.int .u8 x] w fun e w' => e = .returned (.bool false) ∧ w' = w := by
  go_enter Tryz.func240, Tryz.ntmps240
  go_wp2
  go_ret
  exact ⟨by simp, rfl⟩
set_option maxHeartbeats 1000000 in
theorem cmp_cp (a b : Nat) (w : World) : Calls Tryz.prog 228 #[.int .u8 (a : Int), .int .u8 (b : Int)] w fun e w' => e = .returned (.int .i64 (cmpI a b)) ∧ w' = w := by
  have HN : Hid (∀ (x : Int) W, Calls Tryz.prog 240 #[.int .u8 x] W fun e w' => e = .returned (.bool false) ∧ w' = W) := fun x W => isNaN_cp x W
  go_enter Tryz.func228, Tryz.ntmps228
  go_wp2_with fail
  refine (HN.out _ _).mono ?_
  rintro e w1 ⟨rfl, rfl⟩
  go_wp2_with fail
  refine (HN.out _ _).mono ?_
  rintro e w1 ⟨rfl, rfl⟩
  by_cases h1 : a < b
  · have h1' : (a : Int) < (b : Int) := by omega
    go_wp2
    go_ret
    exact ⟨by simp [cmpI, h1], rfl⟩
  · have h1' : ¬ (a : Int) < (b : Int) := by omega
    by_cases h2 : b < a
    · have h2' : (b : Int) < (a : Int) := by omega
      go_wp2
      go_ret
      exact ⟨by simp [cmpI, h1, h2], rfl⟩
    · have h2' : ¬ (b : Int) < (a : Int) := by omega
      go_wp2
      go_ret
      exact ⟨by simp [cmpI, h1, h2], rfl⟩
set_option maxHeartbeats 1000000 in
theorem cls_cp (x y : Cp) (W : World) : Calls Tryz.prog 227 #[.agg x.cs.toArray, .agg y.cs.toArray] W fun e w' => e = .returned (.int .i64 (cmpI x.k y.k)) ∧ ∃ q os', w' = grow (W.drewN q) os' := by
  obtain ⟨xi, xa, xb, xc⟩ := x
  obtain ⟨yi, ya, yb, yc⟩ := y
  have HC : Hid (∀ W, Calls Tryz.prog 228 #[.int .u8 (xi : Int), .int .u8 (yi : Int)] W fun e w' => e = .returned (.int .i64 (cmpI xi yi)) ∧ w' = W) := fun W => cmp_cp xi yi W
  show Calls Tryz.prog 227 #[.agg #[.int .u8 (xi : Int), .int .i32 xa, .int .i32 xb, .int .i32 xc], .agg #[.int .u8 (yi : Int), .int .i32 ya, .int .i32 yb, .int .i32 yc]] W fun e w' => e = .returned (.int .i64 (cmpI xi yi)) ∧ ∃ q os', w' = grow (W.drewN q) os'
  generalize cmpI xi yi = r at *
  go_enter Tryz.func227, Tryz.ntmps227
  go_wp2_with fail
  refine (HC.out _).mono ?_
  rintro e w1 ⟨rfl, rfl⟩
  go_wp2
  go_ret
  exact ⟨rfl, 0, _, by rw [alloc_eq_grow, alloc_eq_grow, grow_grow]; rfl⟩
theorem lt_cp (x y : Cp) : ltOf (fun x y : Cp => cmpI x.k y.k) x y = decide (x.k < y.k) := by
  unfold ltOf cmpI
  by_cases h1 : x.k < y.k
  · simp [h1]
  · by_cases h2 : y.k < x.k <;> simp [h1, h2]
theorem swo_cp : SWO (ltOf fun x y : Cp => cmpI x.k y.k) where
  irrefl x := by rw [lt_cp]; simp
  trans x y z h1 h2 := by rw [lt_cp] at *; simp at *; omega
  ntrans x y z h1 h2 := by rw [lt_cp] at *; simp at *; omega
theorem sorts_cp (w0 w : World) (l : List Thing) (g cap : Nat) (L : List Cp) (h : Own w0 w (Row 68 4 (.slice (some ⟨g, 0, none⟩) L.length cap) L.length (cat Cp.cs L) :: l)) (hsz : L.length < 1000000000) :
    Calls Tryz.prog 226 #[.slice (some ⟨g, 0, none⟩) L.length cap, .func (.func 227) #[] #[]] w fun e w' => e = .returned (.tuple #[]) ∧ ∃ L', L'.Perm L ∧ L'.Pairwise (fun a b => a.k ≤ b.k) ∧ Own w0 w' (Row 68 4 (.slice (some ⟨g, 0, none⟩) L.length cap) L.length (cat Cp.cs L') :: l) := by
  have eg : ∀ args w, (callFunc 227 args).run Tryz.prog w = .ok (.enter 227 args) w := enters_of Tryz.func227 (by kernel_rfl) rfl
  have hH := Own.holdsK (enc := Cp.cs) (k := 4) (fun _ => rfl) (by decide) h
  have hblk : g < w.heap.size := by
    obtain ⟨h1, h2⟩ := h.row
    rcases h2 with ⟨hv, _⟩ | ⟨g', cap', cur, hv, hb, hgg, _⟩
    · cases hv
    · simp only [Value.slice.injEq, Option.some.injEq, Addr.mk.injEq] at hv
      rw [hv.1.1]
      exact (Array.getElem?_eq_some_iff.1 hgg).1
  have hcon := AnyQ.slices_SortFunc sortCp 4 Tryz.isAgg68 Tryz.sizeOf68 Cp.cs (fun _ => rfl) (fun x v hv => by simp [Cp.cs] at hv; rcases hv with rfl | rfl | rfl | rfl <;> rfl) (fun x y => cmpI x.k y.k) swo_cp 227 #[] g 0 cap L.toArray w eg (fun _ _ _ _ x y => cls_cp x y _) hH hblk (by simp; omega)
  change Calls Tryz.prog 226 _ _ _ at hcon
  rw [show L.toArray.size = L.length by simp] at hcon
  refine hcon.mono ?_
  rintro e w' ⟨rfl, d', n, os, hp, hs, rfl⟩
  obtain ⟨hsz1, _, hp3⟩ := hp
  have hd : d'.size = L.length := by rw [hsz1]; simp
  have hperm : d'.toList.Perm L := by
    have e1 : (d'.extract 0 L.length).toList = d'.toList := by rw [← hd]; simp
    have e2 : (L.toArray.extract 0 L.length).toList = L := by simp
    rw [e1, e2] at hp3
    exact hp3
  refine ⟨rfl, d'.toList, hperm, ?_, ?_⟩
  · rw [List.pairwise_iff_getElem]
    intro i j hi hj hij
    have hi' : i < d'.size := by simpa using hi
    have hj' : j < d'.size := by simpa using hj
    have a := hs i j (Nat.zero_le _) hij (by omega)
    rw [lt_cp, getElem!_pos d' i hi', getElem!_pos d' j hj'] at a
    simp at a
    simpa using a
  · have hl : d'.toList.length = L.length := by simpa using hd
    have := h.sortK (enc := Cp.cs) (k := 4) (fun _ => rfl) (by decide) hl n os
    rw [hl] at this
    simpa using this
set_option maxHeartbeats 2000000 in
theorem ins_cp (w : World) (f : Value) : Calls Tryz.prog 252 #[.slice none 0 0, .int .i64 0, .int .i64 0, f] w fun e w' => e = .returned (.tuple #[]) ∧ w' = w := by
  go_enter Tryz.func252, Tryz.ntmps252
  go_wp2
  go_loopw [8] (fun v wr => v = .int .i64 1 ∧ wr = w) (fun _ _ => 0)
  case atStart => exact ⟨rfl, rfl⟩
  case round =>
    obtain ⟨rfl, rfl⟩ := hrel
    go_wp2
    go_end0
    exact ⟨rfl, rfl⟩
set_option maxHeartbeats 2000000 in
theorem pdq_cp (w : World) (lim : Nat) (f : Value) : Calls Tryz.prog 239 #[.slice none 0 0, .int .i64 0, .int .i64 0, .int .i64 (lim : Int), f] w fun e w' => e = .returned (.tuple #[]) ∧ w' = w := by
  have H : Hid (Calls _ _ _ _ _) := ins_cp w f
  go_enter Tryz.func239, Tryz.ntmps239
  go_wp2
  go_loopw [1, 2, 3, 10, 11] (fun v1 v2 v3 v8 v9 wr => v1 = .int .i64 0 ∧ v2 = .int .i64 0 ∧ wr = w) (fun _ _ _ _ _ _ => 0)
  case atStart => exact ⟨rfl, rfl, rfl⟩
  case round =>
    obtain ⟨rfl, rfl, rfl⟩ := hrel
    go_wp2_with fail
    refine H.out.mono ?_
    rintro e w1 ⟨rfl, rfl⟩
    go_wp2
    refine bodyPost_ret (results_none rfl _ _ _) rfl ?_
    exact ⟨rfl, rfl⟩
set_option maxHeartbeats 2000000 in
theorem nilS_cp (w : World) (f : Value) : Calls Tryz.prog 226 #[.slice none 0 0, f] w fun e w' => e = .returned (.tuple #[]) ∧ w' = w := by
  have HB : Hid (Calls Tryz.prog 230 #[.int .u64 0] w fun e w' => e = .returned (.int .i64 ((Lib.bitLen 0 : Nat) : Int)) ∧ w' = w) := by
    have h := Any.bits_Len (SlLaysF0.n15.bits (P := Tryz.prog) (ρ := sortCp_ren) { sortCp with }) (0 : Int) w (by omega) (by omega)
    exact h
  have HP : Hid (Calls _ _ _ _ _) := pdq_cp w (Lib.bitLen 0) f
  generalize Lib.bitLen 0 = lim at *
  go_enter Tryz.func226, Tryz.ntmps226
  go_wp2_with fail
  refine HB.out.mono ?_
  rintro e w1 ⟨rfl, rfl⟩
  go_wp2_with fail
  refine HP.out.mono ?_
  rintro e w1 ⟨rfl, rfl⟩
  go_wp2
  go_end0
  exact ⟨rfl, rfl⟩
theorem sort_cp (w0 w : World) (l : List Thing) (ao : Option Addr) (cap : Nat) (L : List Cp) (h : Own w0 w (Row 68 4 (.slice ao L.length cap) L.length (cat Cp.cs L) :: l)) (hsz : L.length < 1000000000) :
    Calls Tryz.prog 226 #[.slice ao L.length cap, .func (.func 227) #[] #[]] w fun e w' => e = .returned (.tuple #[]) ∧ ∃ L', L'.Perm L ∧ L'.Pairwise (fun a b => a.k ≤ b.k) ∧ Own w0 w' (Row 68 4 (.slice ao L.length cap) L.length (cat Cp.cs L') :: l) := by
  rcases h.row.2 with ⟨hv, hn⟩ | ⟨g, cap', cur, hv, _⟩
  · have hL : L = [] := List.eq_nil_of_length_eq_zero hn
    subst hL
    simp only [List.length_nil, Value.slice.injEq] at hv
    obtain ⟨rfl, _, rfl⟩ := hv
    refine (nilS_cp w _).mono ?_
    rintro e w' ⟨rfl, rfl⟩
    exact ⟨rfl, [], List.Perm.refl _, List.Pairwise.nil, h⟩
  · have hva := (Value.slice.inj hv).1
    subst hva
    exact sorts_cp w0 w l g cap L h hsz
end Go.Proofs.YtbencjopjdjepaaGreatDoor

