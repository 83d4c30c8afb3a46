/-
  The store's Get; how one comes from a place by a speed.
-/
import Derived.Test.YtcpknpgeiafkoaaDoorDig
import Derived.Test.YtcpknpgeiafkoaaDoorIeg
import Derived.Test.YtcpknpgeiafkoaaDoorIhg
import Derived.Deep.RegionHeld3
namespace Go.Proofs.YtcpknpgeiafkoaaDoor
open Go.RowKit Go.Maps
set_option linter.unusedVariables false
set_option maxRecDepth 100000

/-- the component of a kind that one has; nothing of it, if it has none -/
def Sto.gv (σ : Sto) (id k : Nat) : Cp := if hasK (σ.cps id) k then mkc k (fv (σ.cps id) k) else ⟨0, 0, 0, 0⟩
set_option maxHeartbeats 2000000 in
theorem sgetC (w0 w : World) (l : List Thing) (b : Nat) (σ : Sto) (K : Nat) (h : Own w0 w (Store b σ K :: l)) (hσ : σ.Ok) (id : Nat) (hid : id < 4294967296) (hl : σ.S.isLive id = true) (k : Nat) (hk : k < 256) :
    Calls Tryd.prog 35 #[.pointer (some ⟨b, 0, none⟩), .int .u32 (id : Int), .int .u8 (k : Int)] w fun e w' => e = .returned (.tuple #[(σ.gv id k).ag, .int .i64 (if hasK (σ.cps id) k then 0 else 10)]) ∧ Own w0 w' (Store b σ K :: l) := by
  obtain ⟨bs, v, p, h⟩ := h.stoX
  obtain ⟨h6, hn, _⟩ := hσ.home hl
  obtain ⟨r, C, hr, he, _⟩ := hσ.ent hl
  have hA := (h.allocC #[.int .u8 0, .int .i32 0, .int .i32 0, .int .i32 0] 58).two
  have HH : Hid (Calls _ _ _ _ _) := home_ok w0 _ _ b bs v p σ K hA hσ.s id hid hl hn h6
  obtain ⟨bt, hp⟩ := stoP h h6 he
  rw [hp, pp_some] at HH
  have HG : Hid (∀ w' l', Own w0 w' (StoX b σ K (bs, v, p) :: l') → Calls Tryd.prog 60 #[.pointer (some ⟨bt, 0, none⟩), .int .u32 (id : Int), .int .u8 (k : Int)] w' fun e w'' => e = .returned (.tuple #[(σ.gv id k).ag, .int .i64 (if hasK (σ.cps id) k then 0 else 10)]) ∧ Own w0 w'' (StoX b σ K (bs, v, p) :: l')) := fun w' l' h' => homeGet w0 w' l' b bs v p σ K hσ id hid hl bt hp h' k hk
  generalize σ.gv id k = G at *
  generalize (if hasK (σ.cps id) k then (0 : Int) else 10) = er at *
  clear h hA hσ hl he hr hp hn hid
  obtain ⟨gk, ga, gb, gc⟩ := G
  simp only [Cp.ag] at HG ⊢
  go_enter Tryd.func35, Tryd.ntmps35
  go_wp2_with fail
  refine HH.out.mono ?_
  rintro e w1 ⟨rfl, hO⟩
  have H1 : Hid (Own w0 w1 _) := hO
  clear hO HH
  go_wp2_with fail
  refine (HG.out _ _ H1.out).mono ?_
  rintro e w2 ⟨rfl, hO⟩
  have hB := hO.two
  have z0 := hB.cell 0
  have z1 := hB.cell 1
  have z2 := hB.cell 2
  have z3 := hB.cell 3
  simp at z0 z1 z2 z3
  have y0 := hB.froz 0
  have y1 := hB.froz 1
  have y2 := hB.froz 2
  have y3 := hB.froz 3
  have HF : Hid (Own w0 _ _) := (((hB.setC 0 (.int .u8 (gk : Int))).setC 1 (.int .i32 ga)).setC 2 (.int .i32 gb)).setC 3 (.int .i32 gc)
  clear hO hB HG H1
  go_wp2
  (try simp only [Exit.inBlock, Exit.then])
  refine bodyPost_ret (v := .tuple #[.agg #[.int .u8 (gk : Int), .int .i32 ga, .int .i32 gb, .int .i32 gc], .int .i64 er]) ?_ rfl ⟨rfl, HF.out.tail.xSto⟩
  rw [results_cell_tmp rfl]
  have r0 := HF.out.cell 0
  have r1 := HF.out.cell 1
  have r2 := HF.out.cell 2
  have r3 := HF.out.cell 3
  simp at r0 r1 r2 r3
  go_simp

/-- where one comes, and its speed from then on -/
def gl1 (at_ by_ : Int) : Int × Int := (max (-524288) (min (at_ + by_) 524287), if max (-524288) (min (at_ + by_) 524287) = at_ + by_ then by_ else min (-by_) 32767)
theorem gl1_in {a b : Int} (hb : -32768 ≤ b ∧ b ≤ 32767) : (-524288 ≤ (gl1 a b).1 ∧ (gl1 a b).1 ≤ 524287) ∧ (-32768 ≤ (gl1 a b).2 ∧ (gl1 a b).2 ≤ 32767) := by
  unfold gl1
  refine ⟨by simp only; omega, ?_⟩
  simp only
  split <;> omega
theorem chk_pv {k : Nat} {a b c : Int} (hk : k = 0 ∨ k = 1) (h : (⟨k, a, b, c⟩ : Cp).chk = 0) : lo k 0 ≤ a ∧ a ≤ hi k 0 ∧ lo k 1 ≤ b ∧ b ≤ hi k 1 ∧ c = 0 := by
  unfold Cp.chk chk at h
  simp only at h
  rcases hk with rfl | rfl
  all_goals
    rw [if_neg (by decide)] at h
    split at h
    · cases h
    · rename_i hs
      split at h
      · cases h
      · rename_i ho
        simp [stray, cnt, kinds, f3, List.range, List.range.loop] at hs
        simp [outside, cnt, kinds, f3, List.range, List.range.loop, lo, hi, fld] at ho
        simp [lo, hi, fld, kinds]
        omega
end Go.Proofs.YtcpknpgeiafkoaaDoor

/-
  Query: Sum.
-/
namespace Go.Proofs.YtcpknpgeiafkoaaDoor
open Go.RowKit Go.Maps Go.Shelf
set_option linter.unusedVariables false
set_option maxRecDepth 100000
attribute [local go_sem] Oper.semAt_some

theorem mem_one {σ : Sto} (hσ : σ.Ok) {k x : Nat} (hk : k < 6) (hx : x ∈ σ.find (2 ^ k) 0) : σ.S.isLive x = true ∧ x < 4294967296 ∧ hasK (σ.cps x) k = true := by
  obtain ⟨h1, h2⟩ := List.mem_filter.1 hx
  obtain ⟨hl, h32⟩ := St.list_iv hσ.s h1
  refine ⟨hl, h32, ?_⟩
  obtain ⟨r, C, hr, he, hlC, _⟩ := hσ.ent hl
  have hc := Sto.cps_of hr he
  have hC : ∀ q ∈ σ.cps x, q.k < 6 := by rw [hc]; exact fun q hq => chk_k ((lst_ok hlC).2 q hq).2
  rw [hasK_tb hC]
  unfold fitb at h2
  simp only [Bool.and_eq_true, decide_eq_true_iff] at h2
  have := congrArg (fun y => y.testBit k) h2.1
  simp only [Nat.testBit_and, Nat.testBit_two_pow_self, Bool.and_true] at this
  exact this
/-- the sum of a field -/
def sumF (v : Nat → Cp) (j : Nat) (L : List Nat) : Int := (L.map (fun id => f3 (v id).a (v id).b (v id).c j)).sum
theorem sumF_snoc (v : Nat → Cp) (j : Nat) (L : List Nat) (x : Nat) : sumF v j (L ++ [x]) = sumF v j L + f3 (v x).a (v x).b (v x).c j := by simp [sumF]
theorem lohi : ∀ k : Fin 6, ∀ j : Fin 3, -524288 ≤ lo k.1 j.1 ∧ hi k.1 j.1 ≤ 524287 := by decide
theorem chk_fld {q : Cp} {j : Nat} (hk : q.k < 6) (hj : j < cnt q.k) (h3 : j < 3) (h : q.chk = 0) : -524288 ≤ f3 q.a q.b q.c j ∧ f3 q.a q.b q.c j ≤ 524287 := by
  unfold Cp.chk chk at h
  rw [if_neg (by omega)] at h
  split at h
  · cases h
  · split at h
    · cases h
    · rename_i ho
      have ho' : outside q.k (f3 q.a q.b q.c) = false := by simpa using ho
      unfold outside at ho'
      rw [List.any_eq_false] at ho'
      have := ho' j (by simpa using hj)
      simp only [Bool.or_eq_true, decide_eq_true_iff, not_or, Int.not_lt] at this
      obtain ⟨l1, l2⟩ := lohi ⟨q.k, hk⟩ ⟨j, h3⟩
      simp only at l1 l2
      omega
theorem sumF_le (v : Nat → Cp) (j : Nat) (L : List Nat) (h : ∀ id ∈ L, -524288 ≤ f3 (v id).a (v id).b (v id).c j ∧ f3 (v id).a (v id).b (v id).c j ≤ 524287) : -(524288 * (L.length : Int)) ≤ sumF v j L ∧ sumF v j L ≤ 524287 * (L.length : Int) := by
  induction L with
  | nil => simp [sumF]
  | cons x L ih =>
    have h1 := h x (by simp)
    have h2 := ih (fun i hi => h i (List.mem_cons_of_mem _ hi))
    have e : sumF v j (x :: L) = f3 (v x).a (v x).b (v x).c j + sumF v j L := by simp [sumF]
    rw [e]
    simp only [List.length_cons]
    omega
theorem gv_of2 {σ : Sto} (hσ : σ.Ok) {id k : Nat} (hl : σ.S.isLive id = true) (hh : hasK (σ.cps id) k = true) : (σ.gv id k).k = k ∧ (σ.gv id k).chk = 0 := by
  obtain ⟨r, C, hr, he, hlC, _⟩ := hσ.ent hl
  have hc := Sto.cps_of hr he
  rw [hc] at hh
  obtain ⟨q, hq, hqk⟩ := (hasK_iff C k).1 hh
  have e : σ.gv id k = q := by
    unfold Sto.gv
    rw [hc, if_pos hh, ← hqk, fv_of hlC hq]
    rfl
  rw [e]
  exact ⟨hqk, (lst_ok hlC).2 q hq |>.2⟩
theorem wr64 (s y : Int) (h1 : -536870912 ≤ s) (h2 : s ≤ 536870912) (h3 : -524288 ≤ y) (h4 : y ≤ 524287) : IntKind.i64.wrap (s + IntKind.i64.wrap y) = s + y := by
  have e : IntKind.i64.wrap y = y := by rw [IntKind.wrap_i64]; omega
  rw [e, IntKind.wrap_i64]
  omega
theorem shl1 (k : Nat) (h : k < 6) : (2 : Int) ^ k % 256 = ((2 ^ k : Nat) : Int) := by
  rcases six k h with rfl | rfl | rfl | rfl | rfl | rfl <;> decide
set_option maxHeartbeats 8000000 in
theorem sum_g (w0 w : World) (l : List Thing) (p : Option Addr) (SG : Thing) (Xs : List Nat) (ht : Tab w0) (h : Own w0 w (SG :: l)) (k j : Nat) (hj : j < cnt k) (v : Nat → Cp) (hI : IterC w0 p (2 ^ k) 0 SG Xs) (hfl : Xs.length ≤ 1024)
    (hG : ∀ x ∈ Xs, (∀ w' l', Own w0 w' (SG :: l') → Calls Tryd.prog 35 #[.pointer p, .int .u32 (x : Int), .int .u8 (k : Int)] w' fun e w'' => e = .returned (.tuple #[(v x).ag, .int .i64 0]) ∧ Own w0 w'' (SG :: l')) ∧ -524288 ≤ f3 (v x).a (v x).b (v x).c j ∧ f3 (v x).a (v x).b (v x).c j ≤ 524287) :
    Calls Tryd.prog 15 #[.pointer p, .int .u8 (k : Int), .int .i64 (j : Int)] w fun e w' => e = .returned (.tuple #[.int .i64 (sumF v j Xs), .int .i64 0]) ∧ Own w0 w' (SG :: l) := by
  obtain ⟨j', ej, _, hk6, hj3⟩ := has_nat k j (by simp only [has, decide_eq_true_eq]; omega)
  obtain rfl : j = j' := by omega
  clear ej
  have HSQ : Hid (IterC w0 p (2 ^ k) 0 SG Xs) := hI
  have hA := ((h.allocC #[.pointer p] 24).allocC #[.int .u8 (k : Int)] 5).allocC #[.int .i64 (j : Int)] 3
  simp only [World.size_alloc] at hA
  have HRG : Hid (Calls _ _ _ _ _) := range_ok _ (ht.quiet hA.fr) k (by omega) j hj
  have HA : Hid (Own w0 _ _) := hA
  have HGT : Hid _ := hG
  have HSB : Hid (∀ pre : List Nat, pre <+: Xs → -536870912 ≤ sumF v j pre ∧ sumF v j pre ≤ 536870912) := by
    intro pre hp
    have h1 := sumF_le v j pre (fun id hid => (hG id (hp.subset hid)).2)
    have h2 := hp.length_le
    omega
  have HSS : Hid (∀ pre x, sumF v j (pre ++ [x]) = sumF v j pre + f3 (v x).a (v x).b (v x).c j) := fun pre x => sumF_snoc v j pre x
  have hfo : Tryd.prog.follows Departure.mixedOrders = true := by kernel_rfl
  have HSH : Hid ((2 : Int) ^ k % 256 = ((2 ^ k : Nat) : Int)) := shl1 k hk6
  clear h hA ht hI hG hj
  generalize lo k j = lk at *
  generalize hi k j = hk at *
  refine (callsIn_wide (n := 4)).1 ?_
  refine callsIn_of_wp_marks Tryd.func15 rfl trivial ?_ rfl
  simp only [Tryd.ntmps15, List.size_toArray, List.length_cons, List.length_nil, Nat.reduceAdd, Nat.reduceSub, Array.replicate_succ, Array.replicate_zero, List.push_toArray, List.append_toArray, List.nil_append, List.cons_append]
  gi_wp2_with fail
  refine ⟨trivial, (callsIn_wide.2 HRG.out).mono ?_⟩
  rintro e w1 ⟨rfl, hf1⟩
  have hB := (HA.out.quiet hf1)
  have q3 := hB.three.cell 0
  have q4 := hB.two.cell 0
  simp at q3 q4
  have y3 := hB.three.lt
  have y4 := hB.two.lt
  have hC := hB.allocC #[.int .i64 0] 2
  have HC : Hid (Own w0 _ _) := hC
  clear hf1 hB hC HRG HA
  gi_wp2_with fail
  rw [HSH.out]
  refine ⟨trivial, (callsIn_wide.2 (fitting_ok w0 _ _ HC.out p (2 ^ k) 0)).mono ?_⟩
  rintro e w2 ⟨rfl, hO2, _⟩
  simp only [World.size_alloc] at hO2 ⊢
  have H2 : Hid (Own w0 w2 _) := hO2.perm (List.Perm.trans (List.Perm.cons _ (List.Perm.cons _ (List.Perm.cons _ (List.perm_middle (l₁ := [Cells w1.heap.size #[.int .i64 0] 2, Cells (w.heap.size + 1 + 1) #[.int .i64 (j : Int)] 3, Cells (w.heap.size + 1) #[.int .u8 (k : Int)] 5, Cells w.heap.size #[.pointer p] 24]) (a := SG) (l₂ := l))))) (List.Perm.refl _))
  clear hO2 HC q3 q4 y3 y4
  gi_wp2_with fail
  refine range_things (n := 4) rfl (enters_of Tryd.func54 (by kernel_rfl) rfl) (fun pre => boxes (w1.heap.size + 1) p (2 ^ k) 0 (SG :: Cells w1.heap.size #[.int .i64 (sumF v j pre)] 2 :: Cells (w.heap.size + 1 + 1) #[.int .i64 (j : Int)] 3 :: Cells (w.heap.size + 1) #[.int .u8 (k : Int)] 5 :: Cells w.heap.size #[.pointer p] 24 :: l)) (fun _ => [Never]) .skip (HSQ.out _ (fun pre => Cells w1.heap.size #[.int .i64 (sumF v j pre)] 2 :: Cells (w.heap.size + 1 + 1) #[.int .i64 (j : Int)] 3 :: Cells (w.heap.size + 1) #[.int .u8 (k : Int)] 5 :: Cells w.heap.size #[.pointer p] 24 :: l) (fun _ => [Never])) (fun _ => rfl) H2.out
    (fun x => { tmps := #[.pointer p, .int .u8 (k : Int), .int .i64 (j : Int), .pointer (some ⟨w.heap.size, 0, none⟩), .pointer (some ⟨w.heap.size + 1, 0, none⟩), .pointer (some ⟨w.heap.size + 1 + 1, 0, none⟩), .int .i64 0, .int .i64 0, .int .i32 lk, .int .i32 hk, .int .i64 0, .pointer (some ⟨w1.heap.size, 0, none⟩), .int .u32 (x : Int), undef, undef, .tuple #[.int .i32 lk, .int .i32 hk, .int .i64 0], .int .u8 (k : Int), .int .i64 (j : Int), .tuple #[.int .i32 lk, .int .i32 hk, .int .i64 0], .int .i32 lk, .int .i32 hk, .int .i64 0, .int .i64 0, .bool false, undef, .pointer p, .int .u8 (k : Int), .int .u8 ((2 ^ k : Nat) : Int), .func (.func 54) #[] #[.pointer (some ⟨w1.heap.size + 1, 0, none⟩), .pointer (some ⟨w1.heap.size + 1 + 1, 0, none⟩), .pointer (some ⟨w1.heap.size + 1 + 2, 0, none⟩)], .int .u32 (x : Int), undef, undef, undef, undef, undef, undef, undef, undef, undef, undef, undef, undef, undef, undef, undef], defers := [] }) ?assign ?body ?done ?stop
  case assign =>
    intro l' x W K hK
    gi_wp2
    exact hK
  case body =>
    intro l' pre x W R hG hO
    obtain ⟨hGET, hx1, hx2⟩ := HGT.out x (hG.subset (by simp))
    obtain ⟨hs1, hs2⟩ := HSB.out pre ((List.prefix_append pre [x]).trans hG)
    have q0 := hO.tail.tail.tail.tail.tail.tail.tail.cell 0
    have q1 := hO.tail.tail.tail.tail.tail.tail.cell 0
    simp at q0 q1
    have HG : Hid (Calls _ _ _ _ _) := hGET W _ (Own.four hO)
    have HSX := HSS.out pre x
    clear hO hG hGET HGT HSB
    obtain ⟨y, hy⟩ : ∃ y, v x = y := ⟨_, rfl⟩
    rw [hy] at HG HSX hx1 hx2
    obtain ⟨yk, ya, yb, yc⟩ := y
    simp only at HSX hx1 hx2
    have HSY : Hid (sumF v j (pre ++ [x]) = sumF v j pre + f3 ya yb yc j) := HSX
    generalize sumF v j pre = sm at *
    clear hy HSX HSS
    gi_wp2_with fail
    refine ⟨trivial, (CallsIn.inRound l' (callsIn_wide.2 HG.out)).mono ?_⟩
    rintro e w3 ⟨rfl, hO3⟩
    have q3 := hO3.tail.tail.tail.tail.cell 0
    have y3 := hO3.tail.tail.tail.tail.froz 0
    have z3 := hO3.tail.tail.tail.tail.lt
    have q4 := hO3.tail.tail.tail.tail.tail.cell 0
    have z4 := hO3.tail.tail.tail.tail.tail.lt
    simp at q3 q4
    have H3 : Hid (∀ u, Own w0 (((w3.setCell ⟨w1.heap.size, 0, none⟩ (.int .i64 u)).alloc (.cells #[.int .u8 (yk : Int), .int .i32 ya, .int .i32 yb, .int .i32 yc] 58)).drew) (boxes (w1.heap.size + 1) p (2 ^ k) 0 (SG :: Cells w1.heap.size #[.int .i64 u] 2 :: Cells (w.heap.size + 1 + 1) #[.int .i64 (j : Int)] 3 :: Cells (w.heap.size + 1) #[.int .u8 (k : Int)] 5 :: Cells w.heap.size #[.pointer p] 24 :: l) ++ R)) := fun u => Own.back4 (Own.bfiv (((Own.setC (Own.fiv hO3) 0 (.int .i64 u)).allocC #[.int .u8 (yk : Int), .int .i32 ya, .int .i32 yb, .int .i32 yc] 58).drew.tail))
    clear hO3 HG q0 q1
    simp only [Cp.ag]
    have hj' : j = 0 ∨ j = 1 ∨ j = 2 := by omega
    rcases hj' with rfl | rfl | rfl
    · simp only [f3] at HSY hx1 hx2
      gi_wp2_with fail
      gi_region_with_o (fail)
      all_goals
        have hw : IntKind.i64.wrap (sm + IntKind.i64.wrap ya) = sm + ya := wr64 sm ya hs1 hs2 hx1 hx2
        rw [hw]
        show Own w0 _ (boxes (w1.heap.size + 1) p (2 ^ k) 0 (SG :: Cells w1.heap.size #[.int .i64 (sumF v 0 (pre ++ [x]))] 2 :: _) ++ R)
        rw [HSY.out]
        exact H3.out _
    · simp only [f3] at HSY hx1 hx2
      gi_wp2_with fail
      gi_region_with_o (fail)
      all_goals
        have hw : IntKind.i64.wrap (sm + IntKind.i64.wrap yb) = sm + yb := wr64 sm yb hs1 hs2 hx1 hx2
        rw [hw]
        show Own w0 _ (boxes (w1.heap.size + 1) p (2 ^ k) 0 (SG :: Cells w1.heap.size #[.int .i64 (sumF v 1 (pre ++ [x]))] 2 :: _) ++ R)
        rw [HSY.out]
        exact H3.out _
    · simp only [f3] at HSY hx1 hx2
      gi_wp2_with fail
      gi_region_with_o (fail)
      all_goals
        have hw : IntKind.i64.wrap (sm + IntKind.i64.wrap yc) = sm + yc := wr64 sm yc hs1 hs2 hx1 hx2
        rw [hw]
        show Own w0 _ (boxes (w1.heap.size + 1) p (2 ^ k) 0 (SG :: Cells w1.heap.size #[.int .i64 (sumF v 2 (pre ++ [x]))] 2 :: _) ++ R)
        rw [HSY.out]
        exact H3.out _
  case done =>
    intro D xs W hS hO
    subst hS
    have hO2 : Own w0 W (Cells w1.heap.size #[.int .i64 (sumF v j xs)] 2 :: Objt D (.deferred (some [])) :: boxes (w1.heap.size + 1) p (2 ^ k) 0 (SG :: Cells (w.heap.size + 1 + 1) #[.int .i64 (j : Int)] 3 :: Cells (w.heap.size + 1) #[.int .u8 (k : Int)] 5 :: Cells w.heap.size #[.pointer p] 24 :: l)) := hO.perm (List.perm_middle (l₁ := [Objt D (.deferred (some [])), Cells (w1.heap.size + 1) #[.pointer p] 24, Cells (w1.heap.size + 1 + 1) #[.int .u8 ((2 ^ k : Nat) : Int)] 5, Cells (w1.heap.size + 1 + 2) #[.int .u8 ((0 : Nat) : Int)] 5, SG]))
    have q0 := hO2.cell 0
    simp at q0
    have hK := hO2.two.objt
    have H4 : Hid (Own w0 (W.putObj D (.deferred none)) _) := hO2.two.putO (.deferred none)
    clear hO hO2
    gi_wp2
    refine ⟨by simp, .inl ⟨_, _, rfl, run_takeDeferred hK, ?_⟩⟩
    exact ⟨_, results_tmp2 rfl _ _ _, rfl, H4.out.tail.tail.tail.tail.tail.two.tail.two.tail.two.tail⟩
  case stop =>
    intro D pre W hS hO
    exact (hO.tail.never).elim
end Go.Proofs.YtcpknpgeiafkoaaDoor

/-
  A region that draws its order, in a round: what goes for a plain one goes there too.
-/
namespace Go.Proofs.YtcpknpgeiafkoaaDoor
open Go.RowKit Go.Maps Go.Shelf
set_option linter.unusedVariables false

theorem wpOp_in {P : Program} {ops : Array Oper} {Q : Exit → Act → World → Prop} {l n i : Nat} {K : Act → World → Prop} {a : Act} {w : World} (hd : ∀ o, ops[i]? = some o → ∀ c, o.op ≠ .defer c) (hQ : ¬ LetsOut Q) (h : wpOp P ops Q i K a w) :
    wpOpIn (Fence.wide.inRound l) n P ops Q i K a w := by
  unfold wpOp at h
  unfold wpOpIn
  cases ho : ops[i]? with
  | none => rw [ho] at h; exact h
  | some o =>
    rw [ho] at h
    simp only at h ⊢
    by_cases hw : Region.wanted o (yielded ops a.tmps) = true
    · rw [if_pos hw] at h ⊢
      rcases h with h | h
      · refine ⟨fun _ _ => trivial, ?_⟩
        have e : o.semAt (Fence.wide.inRound l).round a.eval = execOp a.eval o := Oper.semAt_some l a.eval o (hd o ho)
        rw [e]
        unfold Oper.wp at h
        generalize (execOp a.eval o).run P w = r at *
        cases r with
        | ok x w' =>
          cases x <;> simp only [Oper.upon, Oper.uponIn] at h ⊢
          all_goals first
            | exact h
            | exact ⟨fun q => by simp [Fence.wide] at q, CallsIn.inRound l (callsIn_wide.2 h)⟩
            | exact ⟨fun q => by simp [Fence.wide] at q, fun c cs _ => let ⟨v, w', r, s⟩ := h c cs; ⟨v, w', r, stepsIn_wide.2 s⟩⟩
        | halt x w' => cases x <;> simp only [Oper.upon, Oper.uponIn] at h ⊢ <;> exact h
      · exact (hQ h.2).elim
    · rw [if_neg hw] at h ⊢
      exact ⟨fun _ _ => trivial, h⟩
theorem wpAny_in {P : Program} {md : Region.Mode} {ops : Array Oper} {Q : Exit → Act → World → Prop} {l n : Nat} (hd : ∀ (i : Nat) o, ops[i]? = some o → ∀ c, o.op ≠ .defer c) (hQ : ¬ LetsOut Q) : ∀ (fuel : Nat) (listed : Array Bool) (a : Act) (w : World), wpAny P md ops Q fuel listed a w → wpAnyIn (Fence.wide.inRound l) n P md ops Q fuel listed a w
  | 0, _, _, _, h => h
  | fuel + 1, _, _, _, h => ⟨h.1, fun i hi => wpOp_in (hd i) hQ (wpOp_mono (fun a' w' h' => wpAny_in hd hQ fuel _ a' w' h') (h.2 i hi))⟩
theorem region_in {P : Program} {id : Nat} {ops : Array Oper} {Q : Exit → Act → World → Prop} {S : World → Prop} {l n : Nat} {a : Act} {w : World} (hm : P.follows .mixedOrders = true) (hd : ∀ (i : Nat) o, ops[i]? = some o → ∀ c, o.op ≠ .defer c) (hQ : ¬ LetsOut Q) (hS : S w.drew)
    (h : S w.drew → wpAnyH P .any ops Q S ops.size (Array.replicate ops.size false) a w.drew) : (Code.region id ops true).wpIn (Fence.wide.inRound l) n P Q a w :=
  wpIn_region_any hm (wpAny_in hd hQ _ _ _ _ (wpAny_of_held _ _ _ _ (h hS)))
end Go.Proofs.YtcpknpgeiafkoaaDoor

/-
  Query: Nearest.
-/
namespace Go.Proofs.YtcpknpgeiafkoaaDoor
open Go.RowKit Go.Maps Go.Shelf
set_option linter.unusedVariables false
set_option maxRecDepth 100000
attribute [local go_sem] Oper.semAt_some

set_option maxHeartbeats 4000000 in
theorem sum_no (w0 w : World) (l : List Thing) (p : Option Addr) (ht : Tab w0) (h : Own w0 w l) (k : Nat) (hk : k < 256) (i : Int) (hi : has k i = false) :
    Calls Tryd.prog 15 #[.pointer p, .int .u8 (k : Int), .int .i64 i] w fun e w' => e = .returned (.tuple #[.int .i64 0, .int .i64 1]) ∧ Own w0 w' l := by
  have hA := ((h.allocC #[.pointer p] 24).allocC #[.int .u8 (k : Int)] 5).allocC #[.int .i64 i] 3
  have HRG : Hid (Calls _ _ _ _ _) := range_no _ (ht.quiet hA.fr) k hk i hi
  have HA : Hid (Own w0 _ _) := hA
  clear h hA ht hi
  go_enter Tryd.func15, Tryd.ntmps15
  go_wp2_with fail
  refine HRG.out.mono ?_
  rintro e w1 ⟨rfl, hf1⟩
  have H1 : Hid (Own w0 w1 _) := HA.out.quiet hf1
  clear HA HRG hf1
  go_wp2
  go_ret2
  exact ⟨rfl, H1.out.tail.tail.tail⟩

/-- a square of a difference -/
def sqd (a x : Int) : Nat := ((a - x) * (a - x)).toNat
theorem sqd_int (a x : Int) : ((sqd a x : Nat) : Int) = (a - x) * (a - x) := by
  unfold sqd
  have : 0 ≤ (a - x) * (a - x) := by
    rcases Int.le_total 0 (a - x) with h | h
    · exact Int.mul_nonneg h h
    · exact Int.mul_nonneg_of_nonpos_of_nonpos h h
  omega
theorem sqd_le (a x : Int) (ha : -524288 ≤ a ∧ a ≤ 524287) (hx : -2147483648 ≤ x ∧ x ≤ 2147483647) : sqd a x ≤ 4614000000000000000 := by
  have h := sqd_int a x
  have hb : -2148007936 ≤ a - x ∧ a - x ≤ 2148007936 := by omega
  generalize a - x = d at *
  have h2 : d * d ≤ 2148007936 * 2148007936 := by
    rcases Int.le_total 0 d with h | h
    · exact Int.mul_le_mul hb.2 hb.2 h (by decide)
    · have := Int.mul_le_mul (a := -d) (b := -d) (c := 2148007936) (d := 2148007936) (by omega) (by omega) (by omega) (by decide)
      rwa [Int.neg_mul_neg] at this
  omega
theorem sqw (s : Nat) (m : Int) (h : (s : Int) = m) (h2 : s ≤ 4614000000000000000) : IntKind.u64.wrap (wrap64 m) = (s : Int) := by
  subst h
  unfold wrap64
  rw [IntKind.wrap_u64]
  omega
set_option maxHeartbeats 1000000 in
theorem square_ok (w : World) (a x : Int) (ha : -524288 ≤ a ∧ a ≤ 524287) (hx : -2147483648 ≤ x ∧ x ≤ 2147483647) :
    Calls Tryd.prog 37 #[.int .i32 a, .int .i32 x] w fun e w' => e = .returned (.int .u64 ((sqd a x : Nat) : Int)) ∧ w' = w := by
  have h1 := sqd_int a x
  have h2 := sqd_le a x ha hx
  generalize sqd a x = s at *
  obtain ⟨ha1, ha2⟩ := ha
  obtain ⟨hx1, hx2⟩ := hx
  obtain ⟨d, hd⟩ : ∃ d, a - x = d := ⟨_, rfl⟩
  rw [hd] at h1
  have HH : Hid ((s : Int) = d * d ∧ s ≤ 4614000000000000000 ∧ a - x = d) := ⟨h1, h2, hd⟩
  clear h1 h2 hd
  go_enter Tryd.func37, Tryd.ntmps37
  go_wp2
  go_ret
  refine ⟨?_, rfl⟩
  obtain ⟨h1, h2, hd⟩ := HH.out
  rw [← sqw s (d * d) h1 h2, ← hd]
  rfl

/-- one more: who is the nearest so far, and how far it is -/
def nst (x y : Int) (r : Option (Nat × Nat)) (i : Nat) (q : Cp) : Option (Nat × Nat) :=
  match r with
  | none => some (i, sqd q.a x + sqd q.b y)
  | some (j, m) => if sqd q.a x + sqd q.b y < m then some (i, sqd q.a x + sqd q.b y) else some (j, m)
def nrf (v : Nat → Cp) (x y : Int) (L : List Nat) : Option (Nat × Nat) := L.foldl (fun r i => nst x y r i (v i)) none
theorem nrf_snoc (v : Nat → Cp) (x y : Int) (L : List Nat) (i : Nat) : nrf v x y (L ++ [i]) = nst x y (nrf v x y L) i (v i) := by simp [nrf]
def nb (r : Option (Nat × Nat)) : Nat := match r with | none => 0 | some (j, _) => j
def nm (r : Option (Nat × Nat)) : Nat := match r with | none => 0 | some (_, m) => m
theorem Own.set3 {w0 w : World} {A B C D : Thing} {b1 b2 b3 : Nat} {v1 v2 v3 : Value} {t1 t2 t3 : TypeId} {l : List Thing} (h : Own w0 w (A :: B :: C :: D :: Cells b1 #[v1] t1 :: Cells b2 #[v2] t2 :: Cells b3 #[v3] t3 :: l)) (u1 u2 u3 : Value) :
    Own w0 (((w.setCell ⟨b1, 0, none⟩ u1).setCell ⟨b2, 0, none⟩ u2).setCell ⟨b3, 0, none⟩ u3) (A :: B :: C :: D :: Cells b1 #[u1] t1 :: Cells b2 #[u2] t2 :: Cells b3 #[u3] t3 :: l) := by
  have h1 : Own w0 w (Cells b1 #[v1] t1 :: Cells b2 #[v2] t2 :: Cells b3 #[v3] t3 :: A :: B :: C :: D :: l) := h.perm (List.perm_append_comm_assoc [A, B, C, D] [Cells b1 #[v1] t1, Cells b2 #[v2] t2, Cells b3 #[v3] t3] l)
  have h2 := ((h1.setC 0 u1).two.setC 0 u2).three.setC 0 u3
  have h3 : Own w0 (((w.setCell ⟨b1, 0, none⟩ u1).setCell ⟨b2, 0, none⟩ u2).setCell ⟨b3, 0, none⟩ u3) (Cells b1 #[u1] t1 :: Cells b2 #[u2] t2 :: Cells b3 #[u3] t3 :: A :: B :: C :: D :: l) := h2.three.in23
  exact h3.perm (List.perm_append_comm_assoc [Cells b1 #[u1] t1, Cells b2 #[u2] t2, Cells b3 #[u3] t3] [A, B, C, D] l)
set_option maxHeartbeats 16000000 in
theorem nearest_g (w0 w : World) (l : List Thing) (p : Option Addr) (SG : Thing) (Xs : List Nat) (h : Own w0 w (SG :: l)) (x y : Int) (hx : -2147483648 ≤ x ∧ x ≤ 2147483647) (hy : -2147483648 ≤ y ∧ y ≤ 2147483647) (v : Nat → Cp) (hI : IterC w0 p 1 0 SG Xs)
    (hG : ∀ id ∈ Xs, (∀ w' l', Own w0 w' (SG :: l') → Calls Tryd.prog 35 #[.pointer p, .int .u32 (id : Int), .int .u8 0] w' fun e w'' => e = .returned (.tuple #[(v id).ag, .int .i64 0]) ∧ Own w0 w'' (SG :: l')) ∧ (-524288 ≤ (v id).a ∧ (v id).a ≤ 524287) ∧ -524288 ≤ (v id).b ∧ (v id).b ≤ 524287) :
    Calls Tryd.prog 17 #[.pointer p, .int .i32 x, .int .i32 y] w fun e w' => e = .returned (.tuple #[.int .u32 ((nb (nrf v x y Xs) : Nat) : Int), .bool (nrf v x y Xs).isSome]) ∧ Own w0 w' (SG :: l) := by
  have HSQ : Hid (IterC w0 p 1 0 SG Xs) := hI
  have hA := (((((h.allocC #[.pointer p] 24).allocC #[.int .i32 x] 21).allocC #[.int .i32 y] 21).allocC #[.int .u32 0] 44).allocC #[.int .u64 0] 93).allocC #[.bool false] 4
  simp only [World.size_alloc] at hA
  have hA2 := hA.three.in23.perm (List.perm_middle (l₁ := [Cells (w.heap.size + 1 + 1 + 1) #[.int .u32 0] 44, Cells (w.heap.size + 1 + 1 + 1 + 1) #[.int .u64 0] 93, Cells (w.heap.size + 1 + 1 + 1 + 1 + 1) #[.bool false] 4, Cells (w.heap.size + 1 + 1) #[.int .i32 y] 21, Cells (w.heap.size + 1) #[.int .i32 x] 21, Cells w.heap.size #[.pointer p] 24]))
  have HF : Hid (Calls _ _ _ _ _) := fitting_ok w0 _ _ hA2 p 1 0
  have HGT : Hid _ := hG
  have HXY : Hid ((-2147483648 ≤ x ∧ x ≤ 2147483647) ∧ -2147483648 ≤ y ∧ y ≤ 2147483647) := ⟨hx, hy⟩
  have HSS : Hid (∀ pre i, nrf v x y (pre ++ [i]) = nst x y (nrf v x y pre) i (v i)) := fun pre i => nrf_snoc v x y pre i
  have HND : Hid (∀ (i : Nat) o, (#[{ dst := some 24, op := Op.fieldAddr 58 (Operand.tmp 12) 1, type := 0, pos := "query.go:79", after := #[], guard := none }, { dst := some 25, op := Op.indexAddr 56 (Operand.tmp 24) (Operand.const (Value.int IntKind.i64 0)), type := 0, pos := "query.go:79", after := #[{ on := 0, ground := Ground.data }], guard := none }, { dst := some 26, op := Op.load 21 (Operand.tmp 25), type := 21, pos := "query.go:79", after := #[{ on := 1, ground := Ground.data }], guard := none }, { dst := some 27, op := Op.load 21 (Operand.tmp 4), type := 21, pos := "query.go:79", after := #[], guard := none }, { dst := some 28, op := Op.call { callee := Callee.value (Operand.func 37), args := #[Operand.tmp 26, Operand.tmp 27], argTypes := #[21, 21] }, type := 93, pos := "query.go:79", after := #[{ on := 2, ground := Ground.data }, { on := 3, ground := Ground.data }], guard := none }, { dst := some 29, op := Op.fieldAddr 58 (Operand.tmp 12) 1, type := 0, pos := "query.go:79", after := #[], guard := none }, { dst := some 30, op := Op.indexAddr 56 (Operand.tmp 29) (Operand.const (Value.int IntKind.i64 1)), type := 0, pos := "query.go:79", after := #[{ on := 5, ground := Ground.data }], guard := none }, { dst := some 31, op := Op.load 21 (Operand.tmp 30), type := 21, pos := "query.go:79", after := #[{ on := 6, ground := Ground.data }], guard := none }, { dst := some 32, op := Op.load 21 (Operand.tmp 5), type := 21, pos := "query.go:79", after := #[], guard := none }, { dst := some 33, op := Op.call { callee := Callee.value (Operand.func 37), args := #[Operand.tmp 31, Operand.tmp 32], argTypes := #[21, 21] }, type := 93, pos := "query.go:79", after := #[{ on := 7, ground := Ground.data }, { on := 8, ground := Ground.data }, { on := 4, ground := Ground.chain }], guard := none }, { dst := some 34, op := Op.binOp BinOp.add 93 (Operand.tmp 28) (Operand.tmp 33) 93, type := 93, pos := "query.go:79", after := #[{ on := 4, ground := Ground.data }, { on := 9, ground := Ground.data }], guard := none }, { dst := some 14, op := Op.assign (Operand.tmp 34), type := 93, pos := "query.go:79", after := #[{ on := 10, ground := Ground.data }, { on := 9, ground := Ground.chain }, { on := 0, ground := Ground.phase }, { on := 1, ground := Ground.phase }, { on := 2, ground := Ground.phase }, { on := 3, ground := Ground.phase }, { on := 4, ground := Ground.phase }, { on := 5, ground := Ground.phase }, { on := 6, ground := Ground.phase }, { on := 7, ground := Ground.phase }, { on := 8, ground := Ground.phase }, { on := 9, ground := Ground.phase }, { on := 10, ground := Ground.phase }], guard := none }] : Array Oper)[i]? = some o → ∀ c, o.op ≠ .defer c) := by
    intro i o ho c hc
    have hm := List.mem_of_getElem? (by simpa using ho)
    simp only [List.mem_cons, List.not_mem_nil, or_false] at hm
    rcases hm with rfl | rfl | rfl | rfl | rfl | rfl | rfl | rfl | rfl | rfl | rfl | rfl <;> cases hc
  have hfo : Tryd.prog.follows Departure.mixedOrders = true := by kernel_rfl
  clear h hA hA2 hI hG hx hy
  refine (callsIn_wide (n := 4)).1 ?_
  refine callsIn_of_wp_marks Tryd.func17 rfl trivial ?_ rfl
  simp only [Tryd.ntmps17, List.size_toArray, List.length_cons, List.length_nil, Nat.reduceAdd, Nat.reduceSub, Array.replicate_succ, Array.replicate_zero, List.push_toArray, List.append_toArray, List.nil_append, List.cons_append]
  gi_wp2_with fail
  refine ⟨trivial, (callsIn_wide.2 HF.out).mono ?_⟩
  rintro e w2 ⟨rfl, hO2, _⟩
  simp only [World.size_alloc] at hO2 ⊢
  have H2 : Hid (Own w0 w2 _) := hO2
  clear hO2 HF
  gi_wp2_with fail
  refine range_things (n := 4) rfl (enters_of Tryd.func54 (by kernel_rfl) rfl) (fun pre => boxes (w.heap.size + 1 + 1 + 1 + 1 + 1 + 1) p 1 0 (SG :: Cells (w.heap.size + 1 + 1 + 1) #[.int .u32 ((nb (nrf v x y pre) : Nat) : Int)] 44 :: Cells (w.heap.size + 1 + 1 + 1 + 1) #[.int .u64 ((nm (nrf v x y pre) : Nat) : Int)] 93 :: Cells (w.heap.size + 1 + 1 + 1 + 1 + 1) #[.bool (nrf v x y pre).isSome] 4 :: Cells (w.heap.size + 1 + 1) #[.int .i32 y] 21 :: Cells (w.heap.size + 1) #[.int .i32 x] 21 :: Cells w.heap.size #[.pointer p] 24 :: l)) (fun _ => [Never]) .skip (HSQ.out _ (fun pre => Cells (w.heap.size + 1 + 1 + 1) #[.int .u32 ((nb (nrf v x y pre) : Nat) : Int)] 44 :: Cells (w.heap.size + 1 + 1 + 1 + 1) #[.int .u64 ((nm (nrf v x y pre) : Nat) : Int)] 93 :: Cells (w.heap.size + 1 + 1 + 1 + 1 + 1) #[.bool (nrf v x y pre).isSome] 4 :: Cells (w.heap.size + 1 + 1) #[.int .i32 y] 21 :: Cells (w.heap.size + 1) #[.int .i32 x] 21 :: Cells w.heap.size #[.pointer p] 24 :: l) (fun _ => [Never])) (fun _ => rfl) H2.out
    (fun i => { tmps := #[.pointer p, .int .i32 x, .int .i32 y, .pointer (some ⟨w.heap.size, 0, none⟩), .pointer (some ⟨w.heap.size + 1, 0, none⟩), .pointer (some ⟨w.heap.size + 1 + 1, 0, none⟩), .int .u32 0, .bool false, .pointer (some ⟨w.heap.size + 1 + 1 + 1, 0, none⟩), .pointer (some ⟨w.heap.size + 1 + 1 + 1 + 1, 0, none⟩), .pointer (some ⟨w.heap.size + 1 + 1 + 1 + 1 + 1, 0, none⟩), .int .u32 (i : Int), undef, undef, undef, .pointer p, .func (.func 54) #[] #[.pointer (some ⟨w.heap.size + 1 + 1 + 1 + 1 + 1 + 1, 0, none⟩), .pointer (some ⟨w.heap.size + 1 + 1 + 1 + 1 + 1 + 1 + 1, 0, none⟩), .pointer (some ⟨w.heap.size + 1 + 1 + 1 + 1 + 1 + 1 + 2, 0, none⟩)], .int .u32 (i : Int), undef, undef, undef, undef, undef, undef, undef, undef, undef, undef, undef, undef, undef, undef, undef, undef, undef, undef, undef, undef, undef, undef, undef, undef, undef, undef, undef, undef], defers := [] }) ?assign ?body ?done ?stop
  case assign =>
    intro l' x W K hK
    gi_wp2
    exact hK
  case body =>
    intro l' pre i W R hG hO
    obtain ⟨hGET, hb1, hb2⟩ := HGT.out i (hG.subset (by simp))
    have q0 := hO.tail.tail.tail.tail.tail.tail.tail.tail.tail.cell 0
    simp at q0
    have HG : Hid (Calls _ _ _ _ _) := hGET W _ (Own.four hO)
    have HQ1 : Hid (∀ w', Calls Tryd.prog 37 #[.int .i32 (v i).a, .int .i32 x] w' fun e w'' => e = .returned (.int .u64 ((sqd (v i).a x : Nat) : Int)) ∧ w'' = w') := fun w' => square_ok w' _ x hb1 HXY.out.1
    have HQ2 : Hid (∀ w', Calls Tryd.prog 37 #[.int .i32 (v i).b, .int .i32 y] w' fun e w'' => e = .returned (.int .u64 ((sqd (v i).b y : Nat) : Int)) ∧ w'' = w') := fun w' => square_ok w' _ y hb2 HXY.out.2
    have hs1 := sqd_le (v i).a x hb1 HXY.out.1
    have hs2 := sqd_le (v i).b y hb2 HXY.out.2
    have hN := HSS.out pre i
    obtain ⟨r', hr'⟩ : ∃ r', nrf v x y (pre ++ [i]) = r' := ⟨_, rfl⟩
    have HR' : Hid (nrf v x y (pre ++ [i]) = r') := hr'
    rw [hr'] at hN
    have HN1 : Hid ((nrf v x y pre).isSome = false → nb r' = i ∧ nm r' = sqd (v i).a x + sqd (v i).b y ∧ r'.isSome = true) := by
      intro hf
      have e : nrf v x y pre = none := by cases hc : nrf v x y pre with | none => rfl | some q => rw [hc] at hf; cases hf
      rw [hN, e]
      exact ⟨rfl, rfl, rfl⟩
    have HN2 : Hid ((nrf v x y pre).isSome = true → sqd (v i).a x + sqd (v i).b y < nm (nrf v x y pre) → nb r' = i ∧ nm r' = sqd (v i).a x + sqd (v i).b y ∧ r'.isSome = true) := by
      intro hf hd
      cases hc : nrf v x y pre with
      | none => rw [hc] at hf; cases hf
      | some q =>
        obtain ⟨j, m⟩ := q
        rw [hc] at hd
        have hd' : sqd (v i).a x + sqd (v i).b y < m := hd
        have e2 : r' = some (i, sqd (v i).a x + sqd (v i).b y) := by rw [hN, hc]; exact if_pos hd'
        rw [e2]
        exact ⟨rfl, rfl, rfl⟩
    have HN3 : Hid ((nrf v x y pre).isSome = true → ¬ sqd (v i).a x + sqd (v i).b y < nm (nrf v x y pre) → nb r' = nb (nrf v x y pre) ∧ nm r' = nm (nrf v x y pre) ∧ r'.isSome = true) := by
      intro hf hd
      cases hc : nrf v x y pre with
      | none => rw [hc] at hf; cases hf
      | some q =>
        obtain ⟨j, m⟩ := q
        rw [hc] at hd
        have hd' : ¬ sqd (v i).a x + sqd (v i).b y < m := hd
        have e2 : r' = some (j, m) := by rw [hN, hc]; exact if_neg hd'
        rw [e2]
        exact ⟨rfl, rfl, rfl⟩
    obtain ⟨q, hq⟩ : ∃ q, v i = q := ⟨_, rfl⟩
    rw [hq] at HG HQ1 HQ2 hs1 hs2 HN1 HN2 HN3
    obtain ⟨yk, ya, yb, yc⟩ := q
    simp only at HQ1 HQ2 hs1 hs2 HN1 HN2 HN3
    generalize nb (nrf v x y pre) = rb at *
    generalize nm (nrf v x y pre) = rm at *
    generalize (nrf v x y pre).isSome = rf at *
    generalize sqd ya x = sa at *
    generalize sqd yb y = sb at *
    clear hO hG hGET HGT HSS hN hr' hq hb1 hb2
    gi_wp2_with fail
    refine ⟨trivial, (CallsIn.inRound l' (callsIn_wide.2 HG.out)).mono ?_⟩
    rintro e w3 ⟨rfl, hO3⟩
    simp only [Cp.ag]
    have q3 := hO3.tail.tail.tail.tail.cell 0
    have y3 := hO3.tail.tail.tail.tail.froz 0
    have z3 := hO3.tail.tail.tail.tail.lt
    have q4 := hO3.tail.tail.tail.tail.tail.cell 0
    have y4 := hO3.tail.tail.tail.tail.tail.froz 0
    have z4 := hO3.tail.tail.tail.tail.tail.lt
    have q5 := hO3.tail.tail.tail.tail.tail.tail.cell 0
    have y5 := hO3.tail.tail.tail.tail.tail.tail.froz 0
    have z5 := hO3.tail.tail.tail.tail.tail.tail.lt
    have q6 := hO3.tail.tail.tail.tail.tail.tail.tail.cell 0
    have z6 := hO3.tail.tail.tail.tail.tail.tail.tail.lt
    have q7 := hO3.tail.tail.tail.tail.tail.tail.tail.tail.cell 0
    have z7 := hO3.tail.tail.tail.tail.tail.tail.tail.tail.lt
    simp at q3 q4 q5 q6 q7
    have H3 : Hid (Own w0 ((w3.alloc (.cells #[.int .u8 (yk : Int), .int .i32 ya, .int .i32 yb, .int .i32 yc] 58)).drew) (boxes (w.heap.size + 1 + 1 + 1 + 1 + 1 + 1) p 1 0 (SG :: Cells (w.heap.size + 1 + 1 + 1) #[.int .u32 (rb : Int)] 44 :: Cells (w.heap.size + 1 + 1 + 1 + 1) #[.int .u64 (rm : Int)] 93 :: Cells (w.heap.size + 1 + 1 + 1 + 1 + 1) #[.bool rf] 4 :: Cells (w.heap.size + 1 + 1) #[.int .i32 y] 21 :: Cells (w.heap.size + 1) #[.int .i32 x] 21 :: Cells w.heap.size #[.pointer p] 24 :: l) ++ R)) := Own.back4 ((hO3.allocC #[.int .u8 (yk : Int), .int .i32 ya, .int .i32 yb, .int .i32 yc] 58).drew.tail)
    have H4 : Hid (∀ u1 u2 u3, Own w0 (((((w3.setCell ⟨w.heap.size + 1 + 1 + 1, 0, none⟩ (.int .u32 u1)).setCell ⟨w.heap.size + 1 + 1 + 1 + 1, 0, none⟩ (.int .u64 u2)).setCell ⟨w.heap.size + 1 + 1 + 1 + 1 + 1, 0, none⟩ (.bool u3)).alloc (.cells #[.int .u8 (yk : Int), .int .i32 ya, .int .i32 yb, .int .i32 yc] 58)).drew) (boxes (w.heap.size + 1 + 1 + 1 + 1 + 1 + 1) p 1 0 (SG :: Cells (w.heap.size + 1 + 1 + 1) #[.int .u32 u1] 44 :: Cells (w.heap.size + 1 + 1 + 1 + 1) #[.int .u64 u2] 93 :: Cells (w.heap.size + 1 + 1 + 1 + 1 + 1) #[.bool u3] 4 :: Cells (w.heap.size + 1 + 1) #[.int .i32 y] 21 :: Cells (w.heap.size + 1) #[.int .i32 x] 21 :: Cells w.heap.size #[.pointer p] 24 :: l) ++ R)) := fun u1 u2 u3 => Own.back4 (((Own.set3 hO3 (.int .u32 u1) (.int .u64 u2) (.bool u3)).allocC #[.int .u8 (yk : Int), .int .i32 ya, .int .i32 yb, .int .i32 yc] 58).drew.tail)
    have HS0 : Hid ((fun wv : World => wv.cell? ⟨w.heap.size + 1, 0, none⟩ = some (.int .i32 x) ∧ wv.cell? ⟨w.heap.size + 1 + 1, 0, none⟩ = some (.int .i32 y) ∧ wv.cell? ⟨w3.heap.size, 1, none⟩ = some (.int .i32 ya) ∧ wv.cell? ⟨w3.heap.size, 2, none⟩ = some (.int .i32 yb)) ((w3.alloc (.cells #[.int .u8 (yk : Int), .int .i32 ya, .int .i32 yb, .int .i32 yc] 58)).drew)) := by
      have hD := (hO3.allocC #[.int .u8 (yk : Int), .int .i32 ya, .int .i32 yb, .int .i32 yc] 58).drew
      refine ⟨?_, ?_, ?_, ?_⟩
      · simpa using hD.tail.tail.tail.tail.tail.tail.tail.tail.tail.cell 0
      · simpa using hD.tail.tail.tail.tail.tail.tail.tail.tail.cell 0
      · simp
      · simp
    clear hO3 HG q0
    gi_wp2_with fail
    refine region_in (S := (fun wv : World => wv.cell? ⟨w.heap.size + 1, 0, none⟩ = some (.int .i32 x) ∧ wv.cell? ⟨w.heap.size + 1 + 1, 0, none⟩ = some (.int .i32 y) ∧ wv.cell? ⟨w3.heap.size, 1, none⟩ = some (.int .i32 ya) ∧ wv.cell? ⟨w3.heap.size, 2, none⟩ = some (.int .i32 yb))) (by kernel_rfl) HND.out (by rintro ⟨a9, w9, h9⟩; exact h9) HS0.out (fun hHeld => ?_)
    refine wpAnyH_take (i := 0) (oi := { dst := some 24, op := Op.fieldAddr 58 (Operand.tmp 12) 1, type := 0, pos := "query.go:79", after := #[], guard := none }) (v := ?_) rfl (by kernel_rfl) (by kernel_rfl) (by kernel_rfl) (fun _ _ _ h => h) (Or.inl ⟨by rfl, ?_⟩) (by assumption) ?_
    rotate_left
    · (intro wx hSw; (try dsimp only at hSw); go_simp; (try with_reducible rfl))
    (try simp only [Act.put, List.setIfInBounds_toArray, List.set_cons_zero, List.set_cons_succ])
    refine wpAnyH_take (i := 1) (oi := { dst := some 25, op := Op.indexAddr 56 (Operand.tmp 24) (Operand.const (Value.int IntKind.i64 0)), type := 0, pos := "query.go:79", after := #[{ on := 0, ground := Ground.data }], guard := none }) (v := ?_) rfl (by kernel_rfl) (by kernel_rfl) (by kernel_rfl) (fun _ _ _ h => h) (Or.inl ⟨by rfl, ?_⟩) (by assumption) ?_
    rotate_left
    · (intro wx hSw; (try dsimp only at hSw); go_simp; (try with_reducible rfl))
    (try simp only [Act.put, List.setIfInBounds_toArray, List.set_cons_zero, List.set_cons_succ])
    refine wpAnyH_take (i := 2) (oi := { dst := some 26, op := Op.load 21 (Operand.tmp 25), type := 21, pos := "query.go:79", after := #[{ on := 1, ground := Ground.data }], guard := none }) (v := ?_) rfl (by kernel_rfl) (by kernel_rfl) (by kernel_rfl) (fun _ _ _ h => h) (Or.inl ⟨by rfl, ?_⟩) (by assumption) ?_
    rotate_left
    · (intro wx hSw; (try dsimp only at hSw); go_simp; (try with_reducible rfl))
    (try simp only [Act.put, List.setIfInBounds_toArray, List.set_cons_zero, List.set_cons_succ])
    refine wpAnyH_take (i := 3) (oi := { dst := some 27, op := Op.load 21 (Operand.tmp 4), type := 21, pos := "query.go:79", after := #[], guard := none }) (v := ?_) rfl (by kernel_rfl) (by kernel_rfl) (by kernel_rfl) (fun _ _ _ h => h) (Or.inl ⟨by rfl, ?_⟩) (by assumption) ?_
    rotate_left
    · (intro wx hSw; (try dsimp only at hSw); go_simp; (try with_reducible rfl))
    (try simp only [Act.put, List.setIfInBounds_toArray, List.set_cons_zero, List.set_cons_succ])
    refine wpAnyH_take (i := 5) (oi := { dst := some 29, op := Op.fieldAddr 58 (Operand.tmp 12) 1, type := 0, pos := "query.go:79", after := #[], guard := none }) (v := ?_) rfl (by kernel_rfl) (by kernel_rfl) (by kernel_rfl) (fun _ _ _ h => h) (Or.inl ⟨by rfl, ?_⟩) (by assumption) ?_
    rotate_left
    · (intro wx hSw; (try dsimp only at hSw); go_simp; (try with_reducible rfl))
    (try simp only [Act.put, List.setIfInBounds_toArray, List.set_cons_zero, List.set_cons_succ])
    refine wpAnyH_take (i := 6) (oi := { dst := some 30, op := Op.indexAddr 56 (Operand.tmp 29) (Operand.const (Value.int IntKind.i64 1)), type := 0, pos := "query.go:79", after := #[{ on := 5, ground := Ground.data }], guard := none }) (v := ?_) rfl (by kernel_rfl) (by kernel_rfl) (by kernel_rfl) (fun _ _ _ h => h) (Or.inl ⟨by rfl, ?_⟩) (by assumption) ?_
    rotate_left
    · (intro wx hSw; (try dsimp only at hSw); go_simp; (try with_reducible rfl))
    (try simp only [Act.put, List.setIfInBounds_toArray, List.set_cons_zero, List.set_cons_succ])
    refine wpAnyH_take (i := 7) (oi := { dst := some 31, op := Op.load 21 (Operand.tmp 30), type := 21, pos := "query.go:79", after := #[{ on := 6, ground := Ground.data }], guard := none }) (v := ?_) rfl (by kernel_rfl) (by kernel_rfl) (by kernel_rfl) (fun _ _ _ h => h) (Or.inl ⟨by rfl, ?_⟩) (by assumption) ?_
    rotate_left
    · (intro wx hSw; (try dsimp only at hSw); go_simp; (try with_reducible rfl))
    (try simp only [Act.put, List.setIfInBounds_toArray, List.set_cons_zero, List.set_cons_succ])
    refine wpAnyH_take (i := 8) (oi := { dst := some 32, op := Op.load 21 (Operand.tmp 5), type := 21, pos := "query.go:79", after := #[], guard := none }) (v := ?_) rfl (by kernel_rfl) (by kernel_rfl) (by kernel_rfl) (fun _ _ _ h => h) (Or.inl ⟨by rfl, ?_⟩) (by assumption) ?_
    rotate_left
    · (intro wx hSw; (try dsimp only at hSw); go_simp; (try with_reducible rfl))
    (try simp only [Act.put, List.setIfInBounds_toArray, List.set_cons_zero, List.set_cons_succ])
    refine wpAnyH_ready (rs := [4]) (by kernel_rfl) (by simp) ?_
    refine AllReadyH.cons (o := { dst := some 28, op := Op.call { callee := Callee.value (Operand.func 37), args := #[Operand.tmp 26, Operand.tmp 27], argTypes := #[21, 21] }, type := 93, pos := "query.go:79", after := #[{ on := 2, ground := Ground.data }, { on := 3, ground := Ground.data }], guard := none }) rfl (fun K hK => ?_) AllReadyH.nil
    go_simp
    refine (HQ1.out _).mono ?_
    rintro e w' ⟨rfl, rfl⟩
    refine hK.out _ _ hHeld (fun hHeld2 => ?_)
    clear hHeld hK K
    have hHeld := hHeld2
    clear hHeld2
    (try simp only [Act.put, List.setIfInBounds_toArray, List.set_cons_zero, List.set_cons_succ])
    refine wpAnyH_ready (rs := [9]) (by kernel_rfl) (by simp) ?_
    refine AllReadyH.cons (o := { dst := some 33, op := Op.call { callee := Callee.value (Operand.func 37), args := #[Operand.tmp 31, Operand.tmp 32], argTypes := #[21, 21] }, type := 93, pos := "query.go:79", after := #[{ on := 7, ground := Ground.data }, { on := 8, ground := Ground.data }, { on := 4, ground := Ground.chain }], guard := none }) rfl (fun K hK => ?_) AllReadyH.nil
    go_simp
    refine (HQ2.out _).mono ?_
    rintro e w' ⟨rfl, rfl⟩
    refine hK.out _ _ hHeld (fun hHeld2 => ?_)
    clear hHeld hK K
    have hHeld := hHeld2
    clear hHeld2
    (try simp only [Act.put, List.setIfInBounds_toArray, List.set_cons_zero, List.set_cons_succ])
    refine wpAnyH_take (i := 10) (oi := { dst := some 34, op := Op.binOp BinOp.add 93 (Operand.tmp 28) (Operand.tmp 33) 93, type := 93, pos := "query.go:79", after := #[{ on := 4, ground := Ground.data }, { on := 9, ground := Ground.data }], guard := none }) (v := ?_) rfl (by kernel_rfl) (by kernel_rfl) (by kernel_rfl) (fun _ _ _ h => h) (Or.inl ⟨by rfl, ?_⟩) (by assumption) ?_
    rotate_left
    · (intro wx hSw; (try dsimp only at hSw); go_simp; (try with_reducible rfl))
    (try simp only [Act.put, List.setIfInBounds_toArray, List.set_cons_zero, List.set_cons_succ])
    refine wpAnyH_take (i := 11) (oi := { dst := some 14, op := Op.assign (Operand.tmp 34), type := 93, pos := "query.go:79", after := #[{ on := 10, ground := Ground.data }, { on := 9, ground := Ground.chain }, { on := 0, ground := Ground.phase }, { on := 1, ground := Ground.phase }, { on := 2, ground := Ground.phase }, { on := 3, ground := Ground.phase }, { on := 4, ground := Ground.phase }, { on := 5, ground := Ground.phase }, { on := 6, ground := Ground.phase }, { on := 7, ground := Ground.phase }, { on := 8, ground := Ground.phase }, { on := 9, ground := Ground.phase }, { on := 10, ground := Ground.phase }], guard := none }) (v := ?_) rfl (by kernel_rfl) (by kernel_rfl) (by kernel_rfl) (fun _ _ _ h => h) (Or.inl ⟨by rfl, ?_⟩) (by assumption) ?_
    rotate_left
    · (intro wx hSw; (try dsimp only at hSw); go_simp; (try with_reducible rfl))
    (try simp only [Act.put, List.setIfInBounds_toArray, List.set_cons_zero, List.set_cons_succ])
    refine wpAnyH_done (by kernel_rfl) ?_ _
    clear hHeld
    have hw : IntKind.u64.wrap ((sa : Int) + (sb : Int)) = ((sa + sb : Nat) : Int) := by rw [IntKind.wrap_u64]; omega
    rw [hw]
    obtain ⟨d, hd⟩ : ∃ d, sa + sb = d := ⟨_, rfl⟩
    rw [hd] at HN1 HN2 HN3 ⊢
    clear hw hd HS0 HQ1 HQ2 hs1 hs2 HND
    cases rf with
    | false =>
      have H5 : Hid (nb r' = i ∧ nm r' = d ∧ r'.isSome = true) := HN1.out rfl
      clear HN1 HN2 HN3
      gi_wp2
      show Own w0 _ (boxes (w.heap.size + 1 + 1 + 1 + 1 + 1 + 1) p 1 0 (SG :: Cells (w.heap.size + 1 + 1 + 1) #[.int .u32 ((nb (nrf v x y (pre ++ [i])) : Nat) : Int)] 44 :: Cells (w.heap.size + 1 + 1 + 1 + 1) #[.int .u64 ((nm (nrf v x y (pre ++ [i])) : Nat) : Int)] 93 :: Cells (w.heap.size + 1 + 1 + 1 + 1 + 1) #[.bool (nrf v x y (pre ++ [i])).isSome] 4 :: Cells (w.heap.size + 1 + 1) #[.int .i32 y] 21 :: Cells (w.heap.size + 1) #[.int .i32 x] 21 :: Cells w.heap.size #[.pointer p] 24 :: l) ++ R)
      rw [HR'.out, H5.out.1, H5.out.2.1, H5.out.2.2]
      exact H4.out _ _ _
    | true =>
      by_cases hlt : d < rm
      · obtain ⟨n1, n2, n3⟩ := HN2.out rfl hlt
        have hlt' : (d : Int) < (rm : Int) := by omega
        have H5 : Hid (nb r' = i ∧ nm r' = d ∧ r'.isSome = true) := ⟨n1, n2, n3⟩
        clear n1 n2 n3 HN1 HN2 HN3 hlt
        gi_wp2
        show Own w0 _ (boxes (w.heap.size + 1 + 1 + 1 + 1 + 1 + 1) p 1 0 (SG :: Cells (w.heap.size + 1 + 1 + 1) #[.int .u32 ((nb (nrf v x y (pre ++ [i])) : Nat) : Int)] 44 :: Cells (w.heap.size + 1 + 1 + 1 + 1) #[.int .u64 ((nm (nrf v x y (pre ++ [i])) : Nat) : Int)] 93 :: Cells (w.heap.size + 1 + 1 + 1 + 1 + 1) #[.bool (nrf v x y (pre ++ [i])).isSome] 4 :: Cells (w.heap.size + 1 + 1) #[.int .i32 y] 21 :: Cells (w.heap.size + 1) #[.int .i32 x] 21 :: Cells w.heap.size #[.pointer p] 24 :: l) ++ R)
        rw [HR'.out, H5.out.1, H5.out.2.1, H5.out.2.2]
        exact H4.out _ _ _
      · obtain ⟨n1, n2, n3⟩ := HN3.out rfl hlt
        have hlt' : ¬ (d : Int) < (rm : Int) := by omega
        have H5 : Hid (nb r' = rb ∧ nm r' = rm ∧ r'.isSome = true) := ⟨n1, n2, n3⟩
        clear n1 n2 n3 HN1 HN2 HN3 hlt
        gi_wp2
        show Own w0 _ (boxes (w.heap.size + 1 + 1 + 1 + 1 + 1 + 1) p 1 0 (SG :: Cells (w.heap.size + 1 + 1 + 1) #[.int .u32 ((nb (nrf v x y (pre ++ [i])) : Nat) : Int)] 44 :: Cells (w.heap.size + 1 + 1 + 1 + 1) #[.int .u64 ((nm (nrf v x y (pre ++ [i])) : Nat) : Int)] 93 :: Cells (w.heap.size + 1 + 1 + 1 + 1 + 1) #[.bool (nrf v x y (pre ++ [i])).isSome] 4 :: Cells (w.heap.size + 1 + 1) #[.int .i32 y] 21 :: Cells (w.heap.size + 1) #[.int .i32 x] 21 :: Cells w.heap.size #[.pointer p] 24 :: l) ++ R)
        rw [HR'.out, H5.out.1, H5.out.2.1, H5.out.2.2]
        exact H3.out
  case done =>
    intro D xs W hS hO
    subst hS
    have hO2 := hO.perm (List.perm_append_comm_assoc [Objt D (.deferred (some [])), Cells (w.heap.size + 1 + 1 + 1 + 1 + 1 + 1) #[.pointer p] 24, Cells (w.heap.size + 1 + 1 + 1 + 1 + 1 + 1 + 1) #[.int .u8 ((1 : Nat) : Int)] 5, Cells (w.heap.size + 1 + 1 + 1 + 1 + 1 + 1 + 2) #[.int .u8 ((0 : Nat) : Int)] 5, SG] [Cells (w.heap.size + 1 + 1 + 1) #[.int .u32 ((nb (nrf v x y xs) : Nat) : Int)] 44, Cells (w.heap.size + 1 + 1 + 1 + 1) #[.int .u64 ((nm (nrf v x y xs) : Nat) : Int)] 93, Cells (w.heap.size + 1 + 1 + 1 + 1 + 1) #[.bool (nrf v x y xs).isSome] 4] (Cells (w.heap.size + 1 + 1) #[.int .i32 y] 21 :: Cells (w.heap.size + 1) #[.int .i32 x] 21 :: Cells w.heap.size #[.pointer p] 24 :: l))
    have q0 := Own.cell hO2 0
    have q1 := Own.cell (Own.three hO2) 0
    simp at q0 q1
    have hK := (Own.four hO2).objt
    have H4 : Hid (Own w0 (W.drew.putObj D (.deferred none)) _) := Own.putO (Own.four hO2.drew) (.deferred none)
    clear hO hO2
    gi_wp2_with fail
    refine wpIn_wide.2 (wp_region_noPanic ?_)
    go_region_held3 (fun wv : World => wv.cell? ⟨w.heap.size + 1 + 1 + 1, 0, none⟩ = some (.int .u32 ((nb (nrf v x y xs) : Nat) : Int)) ∧ wv.cell? ⟨w.heap.size + 1 + 1 + 1 + 1 + 1, 0, none⟩ = some (.bool (nrf v x y xs).isSome)) (exact ⟨q0, q1⟩) (fail)
    all_goals
      refine NoPanic.normal ?_
      gi_wp2
      refine ⟨by simp, .inl ⟨_, _, rfl, run_takeDeferred hK, ?_⟩⟩
      exact ⟨_, results_tmp2 rfl _ _ _, rfl, H4.out.tail.tail.tail.tail.tail.tail.tail.two.tail.two.tail.two.tail⟩

  case stop =>
    intro D pre W hS hO
    exact (hO.tail.never).elim
end Go.Proofs.YtcpknpgeiafkoaaDoor
