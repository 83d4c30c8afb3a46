/-
  What is told of a store's numbers: Live, Len, Room, List; a nil store.
-/
import Derived.Test.YtcpknpgeiafkoaaDoorOgg
import Derived.Test.YtcpknpgeiafkoaaDoorObg
import Derived.Test.YtcpknpgeiafkoaaDoorUb
import Derived.Lib.Overlaps
import Derived.Lib.AppendZerosOnto
import Derived.Laws.CopyRow
import Derived.Test.YtcpknpgeiafkoaaDoorUh
import Derived.Test.YtcpknpgeiafkoaaDoorIa
import Derived.Test.YtcpknpgeiafkoaaDoorSm
namespace Go.Proofs.YtcpknpgeiafkoaaDoor
open Go.RowKit Go.Maps
set_option linter.unusedVariables false

set_option maxHeartbeats 400000 in
theorem sused (w0 w : World) (l : List Thing) (b bs : Nat) (v : Value) (p : Nat → Option Nat) (σ : Sto) (K : Nat) (h : Own w0 w (StoX b σ K (bs, v, p) :: l)) :
    Calls Tryd.prog 77 #[.pointer (some ⟨b, 0, none⟩)] w fun e w' => e = .returned (.pointer (some ⟨bs, 0, none⟩)) ∧ w' = w := by
  obtain ⟨q0, _, _⟩ := stoCells h
  clear h
  go_enter Tryd.func77, Tryd.ntmps77
  go_wp2
  go_ret
  exact ⟨rfl, rfl⟩
set_option maxHeartbeats 400000 in
theorem sused_nil (w : World) : Calls Tryd.prog 77 #[.pointer none] w fun e w' => e = .returned (.pointer none) ∧ w' = w := by
  go_enter Tryd.func77, Tryd.ntmps77
  go_wp2
  go_ret
  exact ⟨rfl, rfl⟩
set_option maxHeartbeats 400000 in
theorem slist (w0 w : World) (l : List Thing) (b : Nat) (σ : Sto) (K : Nat) (h : Own w0 w (Store b σ K :: l)) (hσ : σ.S.Ok) :
    Calls Tryd.prog 55 #[.pointer (some ⟨b, 0, none⟩)] w fun e w' => ∃ v, e = .returned v ∧ Own w0 w' (Row 44 1 v σ.S.list.length (irow .u32 σ.S.list) :: Store b σ K :: l) := by
  obtain ⟨bs, v, p, h⟩ := h.stoX
  have HU : Hid (Calls _ _ _ _ _) := sused w0 w l b bs v p σ K h
  have HL : Hid (Calls _ _ _ _ _) := list_ok w0 w _ bs σ.S h.stoO.two hσ
  clear h
  go_enter Tryd.func55, Tryd.ntmps55
  go_wp2_with (go_at_call 77; refine HU.out.mono ?_; rintro e w' ⟨rfl, rfl⟩)
  refine HL.out.mono ?_
  rintro e w' ⟨vv, rfl, hO⟩
  have H1 : Hid (Own w0 w' (Row 44 1 vv σ.S.list.length (irow .u32 σ.S.list) :: Store b σ K :: l)) := by
    have k := Own.sink (l := [Cells b (scells bs v p) 110, Slots bs σ.S, Row 5 1 v σ.mks.length (irow .u8 σ.mks), Tabs p σ.T K]) (m := l) hO.in23
    exact (Own.stoS k).xSto.two
  clear hO
  go_wp2
  go_ret
  exact ⟨_, rfl, H1.out⟩
end Go.Proofs.YtcpknpgeiafkoaaDoor

/-
  An entity with all its components.
-/
namespace Go.Proofs.YtcpknpgeiafkoaaDoor
open Go.RowKit Go.Maps
set_option linter.unusedVariables false
set_option maxRecDepth 100000

theorem upd_self {α : Type} (f : Nat → α) (k : Nat) : upd f k (f k) = f := by
  funext j; unfold upd; split
  · rename_i e; rw [e]
  · rfl
theorem Own.stoT {w0 w : World} {l : List Thing} {b bs : Nat} {v : Value} {p : Nat → Option Nat} {σ : Sto} {K m bt c : Nat} (h : Own w0 w (Table bt m (σ.T m) c :: StoB b σ K (bs, v, p) m :: l)) (hm : m < 64) (hp : p m = some bt) (hc : c ≤ K) (hL : σ.T m ≠ []) (hl : (σ.T m).length ≤ K) : Own w0 w (StoX b σ K (bs, v, p) :: l) := by
  have k := h.stoBX hm hp (Nat.le_refl K) hc hL hl
  rw [upd_self] at k
  exact k
theorem stoP {w0 w : World} {l : List Thing} {b bs : Nat} {v : Value} {p : Nat → Option Nat} {σ : Sto} {K m r : Nat} {e : Ent} (h : Own w0 w (StoX b σ K (bs, v, p) :: l)) (hm : m < 64) (he : (σ.T m)[r]? = some e) : ∃ bt, p m = some bt := by
  cases hp : p m with
  | none => exact absurd (h.stoN hm hp).1 (fun q => by rw [q] at he; simp at he)
  | some bt => exact ⟨bt, rfl⟩
set_option maxHeartbeats 2000000 in
theorem sent (w0 w : World) (l : List Thing) (b : Nat) (σ : Sto) (K : Nat) (h : Own w0 w (Store b σ K :: l)) (hσ : σ.Ok) (id : Nat) (hid : id < 4294967296) (hl : σ.S.isLive id = true) (r : Nat) (C : List Cp) (he : (σ.T (σ.hom id))[r]? = some (id, C)) (hK : K ≤ 1000000) :
    Calls Tryd.prog 19 #[.pointer (some ⟨b, 0, none⟩), .int .u32 (id : Int)] w fun e w' => ∃ ao cap, e = .returned (.tuple #[.agg #[.int .u32 (id : Int), .slice ao C.length cap], .int .i64 0]) ∧ Own w0 w' (Row 58 4 (.slice ao C.length cap) C.length (ccat C) :: Store b σ K :: l) := by
  obtain ⟨bs, v, p, h⟩ := h.stoX
  obtain ⟨h6, hn, _⟩ := hσ.home hl
  have hr : plc (σ.T (σ.hom id)) id = some r := (plc_some (hσ.t _ h6).ap id r).2 ⟨_, he, rfl⟩
  have hA := (h.allocC #[.int .u32 0, .slice none 0 0] 51).two
  have HH : Hid (Calls _ _ _ _ _) := home_ok w0 _ _ b bs v p σ K hA hσ.s id hid hl hn h6
  obtain ⟨bt, hp⟩ := stoP h h6 he
  rw [hp, pp_some] at HH
  have HRW : Hid (∀ w' l', Own w0 w' (StoX b σ K (bs, v, p) :: l') → Calls Tryd.prog 39 #[.pointer (some ⟨bt, 0, none⟩), .int .u32 (id : Int)] w' fun e w'' => e = .returned (.tuple #[.int .i64 (r : Int), .bool true]) ∧ w'' = w') := by
    intro w' l' h'
    obtain ⟨c, _, _, _, h2⟩ := h'.stoB h6 hp
    have k := trow w0 w' _ bt _ _ _ _ c h2 id hid
    rw [hr] at k
    exact k
  have HAT : Hid (∀ w' l', Own w0 w' (StoX b σ K (bs, v, p) :: l') → Calls Tryd.prog 40 #[.pointer (some ⟨bt, 0, none⟩), .int .i64 (r : Int)] w' fun out w'' => ∃ ao cap, out = .returned (.tuple #[.agg #[.int .u32 (id : Int), .slice ao C.length cap], .bool true]) ∧ Own w0 w'' (Row 58 4 (.slice ao C.length cap) C.length (ccat C) :: StoX b σ K (bs, v, p) :: l')) := by
    intro w' l' h'
    obtain ⟨c, hc, hne, hlen, h2⟩ := h'.stoB h6 hp
    refine (tatC w0 w' _ bt _ _ c h2 (hσ.t _ h6) r (id, C) he (by omega)).mono ?_
    rintro e w'' ⟨ao, cap, rfl, h3⟩
    refine ⟨ao, cap, rfl, ?_⟩
    have h4 : Own w0 w'' (Table bt (σ.hom id) (σ.T (σ.hom id)) c :: StoB b σ K (bs, v, p) (σ.hom id) :: Row 58 4 (.slice ao C.length cap) C.length (ccat C) :: l') := h3.back3
    exact (h4.stoT h6 hp hc hne hlen).two
  clear h hA hσ hl he hr hp hn hid
  go_enter Tryd.func19, Tryd.ntmps19
  go_wp2_with fail
  refine HH.out.mono ?_
  rintro e w1 ⟨rfl, hO⟩
  have H1 : Hid (Own w0 w1 _) := hO
  clear hO HH
  go_wp2_with fail
  refine (HRW.out _ _ H1.out).mono ?_
  rintro e w2 ⟨rfl, rfl⟩
  go_wp2_with fail
  refine (HAT.out _ _ H1.out).mono ?_
  rintro e w3 ⟨ao, cap, rfl, hO⟩
  have hB := (hO.allocC #[.int .u32 (id : Int), .slice ao C.length cap] 51).four
  have x0 := hB.two.cell 0
  have x1 := hB.two.cell 1
  have z0 := hB.cell 0
  have z1 := hB.cell 1
  simp at x0 x1 z0 z1
  have y0 := hB.froz 0
  have y1 := hB.froz 1
  have hne1 : w3.heap.size ≠ w.heap.size := by
    have := hO.three.lt
    omega
  have hne2 : w.heap.size ≠ w3.heap.size := fun q => hne1 q.symm
  have HF : Hid (Own w0 _ _) := (hB.setC 0 (.int .u32 (id : Int))).setC 1 (.slice ao C.length cap)
  clear hO hB HAT HRW H1
  go_wp2
  (try simp only [Exit.inBlock, Exit.then])
  refine bodyPost_ret (v := .tuple #[.agg #[.int .u32 (id : Int), .slice ao C.length cap], .int .i64 0]) ?_ rfl ⟨ao, cap, rfl, ?_⟩
  · rw [results_cell_tmp rfl]
    have r0 := HF.out.cell 0
    have r1 := HF.out.cell 1
    simp at r0 r1
    go_simp
  · exact HF.out.tail.tail.two.xSto.two
end Go.Proofs.YtcpknpgeiafkoaaDoor

/-
  slices.Insert of one component.
-/
namespace Go.Proofs.YtcpknpgeiafkoaaDoor
open Go.RowKit
set_option linter.unusedVariables false
set_option maxRecDepth 100000

theorem run_copy_sz {P : Program} (w : World) (dT sT ty elem : TypeId) (g o dLen dCap : Nat) (a : Addr) (sLen sCap : Nat) (cur : Array Value) (t : TypeId) (cs : List Value) (size k : Nat)
    (hu : P.underlying dT = some (.slice elem)) (hs : (P.info? elem).map (·.size) = some size) (hsz : 0 < size)
    (hg : w.heap[g]? = some (.cells cur t (0, 0))) (hk : k = Nat.min sLen dLen) (hn : cs.length = k * size)
    (hsrc : ∀ j v, cs[j]? = some v → w.cell? (a.add j) = some v) (hfit : o + cs.length ≤ cur.size) (h1 : ∀ v ∈ cs, v.oneCell' = true) :
    (Builtin.copy_ #[dT, sT] ty #[.slice (some ⟨g, o, none⟩) dLen dCap, .slice (some a) sLen sCap]).run P w =
      .ok (goInt k) (w.setRow g (cur.toList.take o ++ cs ++ cur.toList.drop (o + cs.length)).toArray) := by
  have hl := run_loadCells_list (P := P) w a cs hsrc
  have hst := run_storeCells_at P g o t cs 0 cur w hg (by simpa using hfit) h1
  cases hq : P.info? elem with
  | none => simp [hq] at hs
  | some i =>
    have hi : i.size = size := by simpa [hq] using hs
    rw [hn] at hl
    simp [Builtin.copy_, run_underlying hu, Builtin.lenOf, Builtin.firstCells, sizeOf, typeInfo, hq, hi, ← hk, hl, hst]
theorem step_cp {P : Program} {ops : Array Oper} {o : Oper} {a : Act} {w : World} {K : Act → World → Prop} {Q : Exit → Act → World → Prop} {E : Prop}
    (hg : o.guard = none) (s x : Operand) (t t' : TypeId) (hop : o.op = Op.call { callee := Callee.builtin Builtin.copy, args := #[s, x], argTypes := #[t, t'] })
    (vs vx v' : Value) (w' : World) (hs : a.eval s = vs) (hx : a.eval x = vx) (hrun : ∀ ty, (Builtin.copy_ #[t, t'] ty #[vs, vx]).run P w = .ok v' w')
    (hK : K (a.put o.dst v') w') :
    if Region.wanted o (yielded ops a.tmps) = true then Oper.wp P o a w K Q else E := by
  have hw : Region.wanted o (yielded ops a.tmps) = true := by simp [Region.wanted, hg]
  rw [if_pos hw]
  unfold Oper.wp
  simp [execOp, hop, resolve, invoke, builtin, hs, hx, hrun, Result.andThen]
  exact hK
theorem wpList_cp {P : Program} {w : World} {ops : Array Oper} {rest : List Oper} {o : Oper} {a : Act} {Q : Exit → Act → World → Prop} (hgd : o.guard = none) (s x : Operand) (t t' : TypeId)
    (hop : o.op = Op.call { callee := Callee.builtin Builtin.copy, args := #[s, x], argTypes := #[t, t'] })
    (vs vx v' : Value) (w' : World) (hs : a.eval s = vs) (hx : a.eval x = vx) (hrun : ∀ ty, (Builtin.copy_ #[t, t'] ty #[vs, vx]).run P w = .ok v' w') (h : wpList P ops Q rest (a.put o.dst v') w') : wpList P ops Q (o :: rest) a w := by
  refine wpList_plain hgd fun K hK => ?_
  unfold Oper.wp
  simp [execOp, hop, resolve, invoke, builtin, hs, hx, hrun, Result.andThen]
  exact hK _ _ h
theorem Own.rowCur {w0 w : World} {l : List Thing} {e : TypeId} {size n g cap : Nat} {xs : List Value} (h : Own w0 w (Row e size (.slice (some ⟨g, 0, none⟩) n cap) n xs :: l)) : ∃ cur : Array Value, w.heap[g]? = some (.cells cur e (0, 0)) ∧ n ≤ cap ∧ cap ≤ maxLen ∧ cur.size = cap * size ∧ cur.toList.take (n * size) = xs := by
  rcases h.row.2 with ⟨h0, _⟩ | ⟨g', cap', cur, h0, _, h1, h2, h3, h4, h5⟩
  · cases h0
  · cases h0
    exact ⟨cur, h1, h2, h3, h4, h5⟩
theorem Own.rowSet {w0 w : World} {l : List Thing} {e : TypeId} {size n g cap : Nat} {xs : List Value} (h : Own w0 w (Row e size (.slice (some ⟨g, 0, none⟩) n cap) n xs :: l)) {cur : Array Value} (hg : w.heap[g]? = some (.cells cur e (0, 0))) (cur' : Array Value) (m : Nat) (hm : m ≤ cap) (hc : cap ≤ maxLen) (hsz : cur'.size = cap * size) (ys : List Value) (ht : cur'.toList.take (m * size) = ys) :
    Own w0 (w.setRow g cur') (Row e size (.slice (some ⟨g, 0, none⟩) m cap) m ys :: l) := by
  obtain ⟨A, ⟨hb, hA⟩, hlo, k⟩ := h.act
  have hl : ys.length = m * size := by
    rw [← ht, List.length_take, Array.length_toList, hsz]
    exact Nat.min_eq_left (Nat.mul_le_mul_right _ hm)
  refine k _ (Row e size (.slice (some ⟨g, 0, none⟩) m cap) m ys) A ⟨⟨hl, .inr ⟨g, cap, cur', rfl, Nat.zero_le _, setRow_heap w g cur cur' e _ hg, hm, hc, hsz, ht⟩⟩, hA⟩ ?_ (fun _ a => .inl a)
  exact ⟨rfl, rfl, rfl, by simp [World.setRow], fun j hj hn => setRow_other w g j cur' (fun q => hn ((hA j).2 (by rw [q]; rfl)))⟩
theorem ccat_take (L : List Cp) (i : Nat) : (ccat L).take (i * 4) = ccat (L.take i) := cat_take Cp.cs 4 cs_len L i
theorem ccat_drop (L : List Cp) (i : Nat) : (ccat L).drop (i * 4) = ccat (L.drop i) := cat_drop Cp.cs 4 cs_len L i
theorem one_ccat (L : List Cp) : ∀ u ∈ ccat L, u.oneCell' = true := one_cat Cp.cs cs_one L
def Cp.ar (q : Cp) : Array Value := #[.int .u8 (q.k : Int), .int .i32 q.a, .int .i32 q.b, .int .i32 q.c]
theorem Cp.ar_list (q : Cp) : q.ar.toList = q.cs := rfl
theorem ccat_one (q : Cp) : ccat [q] = q.cs := by simp [ccat, cat]
theorem ccat_app (L M : List Cp) : ccat (L ++ M) = ccat L ++ ccat M := cat_append _ _ _

theorem cur_at {L : List Cp} {cur : Array Value} {n : Nat} (htk : cur.toList.take (n * 4) = ccat L) (i j : Nat) (v : Value) (hv : (ccat (L.drop i))[j]? = some v) : cur[i * 4 + j]? = some v := by
  rw [← ccat_drop, List.getElem?_drop, ← htk, List.getElem?_take] at hv
  split at hv
  · rw [← Array.getElem?_toList]; exact hv
  · cases hv
end Go.Proofs.YtcpknpgeiafkoaaDoor

/-
  slices.Insert of one component where there is no room: a new row.
-/
namespace Go.Proofs.YtcpknpgeiafkoaaDoor
open Go.RowKit
set_option linter.unusedVariables false
set_option maxRecDepth 100000

end Go.Proofs.YtcpknpgeiafkoaaDoor

/-
  A component more, by rising kinds.
-/
namespace Go.Proofs.YtcpknpgeiafkoaaDoor
open Go.RowKit
set_option linter.unusedVariables false
set_option maxRecDepth 100000

/-- with one component more -/
def insw (L : List Cp) (c : Cp) : List Cp := L.takeWhile (fun q => decide (q.k < c.k)) ++ c :: L.dropWhile (fun q => decide (q.k < c.k))
theorem insw_at (L : List Cp) (c : Cp) (j : Nat) (h1 : ∀ q ∈ L.take j, q.k < c.k) (h2 : ∀ q, L[j]? = some q → c.k ≤ q.k) : L.take j ++ c :: L.drop j = insw L c := by
  induction L generalizing j with
  | nil => simp [insw]
  | cons a L ih =>
    cases j with
    | zero =>
      have := h2 a rfl
      have hn : ¬ a.k < c.k := by omega
      simp [insw, hn]
    | succ j =>
      have ha : a.k < c.k := h1 a (by simp)
      have := ih j (fun q hq => h1 q (by simp [hq])) (fun q hq => h2 q (by simpa using hq))
      simp only [insw] at this ⊢
      simp [ha, this]
end Go.Proofs.YtcpknpgeiafkoaaDoor

/-
  A component more: what becomes of a store.
-/
namespace Go.Proofs.YtcpknpgeiafkoaaDoor
open Go.RowKit Go.Maps
set_option linter.unusedVariables false
set_option maxRecDepth 100000

theorem insw_cons (q : Cp) (t : List Cp) (c : Cp) : insw (q :: t) c = if q.k < c.k then q :: insw t c else c :: q :: t := by
  unfold insw
  by_cases h : q.k < c.k <;> simp [h]
theorem insw_mem {C : List Cp} {c x : Cp} (h : x ∈ insw C c) : x ∈ C ∨ x = c := by
  induction C with
  | nil => simp [insw] at h; exact .inr h
  | cons q t ih =>
    rw [insw_cons] at h
    split at h
    · rcases List.mem_cons.1 h with rfl | h
      · exact .inl List.mem_cons_self
      · rcases ih h with h | h
        · exact .inl (List.mem_cons_of_mem _ h)
        · exact .inr h
    · rcases List.mem_cons.1 h with rfl | h
      · exact .inr rfl
      · exact .inl h
theorem insw_sorted {C : List Cp} {c : Cp} (h : C.Pairwise (fun x y => x.k < y.k)) (hk : hasK C c.k = false) : (insw C c).Pairwise (fun x y => x.k < y.k) := by
  induction C with
  | nil => simp [insw]
  | cons q t ih =>
    obtain ⟨h1, h2⟩ := List.pairwise_cons.1 h
    have hq : q.k ≠ c.k := by
      intro e
      have : hasK (q :: t) c.k = true := (hasK_iff _ _).2 ⟨q, List.mem_cons_self, e⟩
      rw [hk] at this; cases this
    have ht : hasK t c.k = false := by
      cases hh : hasK t c.k with
      | false => rfl
      | true =>
        obtain ⟨x, hx, e⟩ := (hasK_iff _ _).1 hh
        have : hasK (q :: t) c.k = true := (hasK_iff _ _).2 ⟨x, List.mem_cons_of_mem _ hx, e⟩
        rw [hk] at this; cases this
    rw [insw_cons]
    split
    · rename_i hlt
      refine List.pairwise_cons.2 ⟨fun x hx => ?_, ih h2 ht⟩
      rcases insw_mem hx with hx | hx
      · exact h1 x hx
      · rw [hx]; exact hlt
    · rename_i hlt
      refine List.pairwise_cons.2 ⟨fun x hx => ?_, h⟩
      rcases List.mem_cons.1 hx with rfl | hx
      · omega
      · have := h1 x hx; omega
theorem insw_ok {C : List Cp} {c : Cp} (h : lst (-1) C = 0) (hc : c.chk = 0) (hk : hasK C c.k = false) : lst (-1) (insw C c) = 0 := by
  rw [lst_iff] at h ⊢
  refine ⟨insw_sorted h.1 hk, fun x hx => ?_⟩
  rcases insw_mem hx with hx | hx
  · exact h.2 x hx
  · rw [hx]; exact hc
theorem insw_len (C : List Cp) (c : Cp) : (insw C c).length = C.length + 1 := by
  unfold insw
  have := congrArg List.length (List.takeWhile_append_dropWhile (p := fun q => decide (q.k < c.k)) (l := C))
  rw [List.length_append] at this
  rw [List.length_append, List.length_cons]; omega

section
variable (w0 w : World) (l : List Thing) (b bs : Nat) (v : Value) (p : Nat → Option Nat) (σ : Sto) (K : Nat)
end
/-- the components of an entity -/
def Sto.cps (σ : Sto) (id : Nat) : List Cp := (((plc (σ.T (σ.hom id)) id).bind fun r => (σ.T (σ.hom id))[r]?).map (·.2)).getD []
theorem Sto.cps_of {σ : Sto} {id r : Nat} {C : List Cp} (hr : plc (σ.T (σ.hom id)) id = some r) (he : (σ.T (σ.hom id))[r]? = some (id, C)) : σ.cps id = C := by
  unfold Sto.cps; rw [hr]; simp [he]
def Sto.turn (σ : Sto) (id : Nat) (C : List Cp) : Sto := (σ.out (σ.hom id) ((plc (σ.T (σ.hom id)) id).getD 0)).put id C
def Sto.add (σ : Sto) (id : Nat) (c : Cp) : Int × Sto :=
  if c.chk ≠ 0 then ((c.chk : Int), σ) else if σ.S.isLive id = false then (7, σ) else if hasK (σ.cps id) c.k then (9, σ) else (0, σ.turn id (insw (σ.cps id) c))
theorem Sto.Ok.ent {σ : Sto} (h : σ.Ok) {id : Nat} (hl : σ.S.isLive id = true) : ∃ r C, plc (σ.T (σ.hom id)) id = some r ∧ (σ.T (σ.hom id))[r]? = some (id, C) ∧ lst (-1) C = 0 ∧ msk C = σ.hom id ∧ σ.hom id < 64 := by
  obtain ⟨h6, _, r, e, hr, he, hx⟩ := h.home hl
  obtain ⟨e1, e2⟩ := e
  simp only at hx
  subst hx
  obtain ⟨a, b⟩ := (h.t _ h6).ok _ (List.mem_of_getElem? he)
  exact ⟨r, e2, hr, he, a, b, h6⟩
theorem Sto.turn_ok {σ : Sto} (h : σ.Ok) {id : Nat} (hl : σ.S.isLive id = true) {C : List Cp} (hC : lst (-1) C = 0) : (σ.turn id C).Ok := by
  obtain ⟨r, _, hr, _⟩ := h.ent hl
  unfold Sto.turn
  rw [hr]
  exact (h.out hl hr).put hC
end Go.Proofs.YtcpknpgeiafkoaaDoor

/-
  The entities that fit: the iterator.
-/
namespace Go.Proofs.YtcpknpgeiafkoaaDoor
open Go.RowKit Go.Maps Go.Shelf
set_option linter.unusedVariables false
set_option maxRecDepth 100000
attribute [local go_sem] Oper.semAt_some

theorem list_len2 {S : St} (hS : S.Ok) : S.list.length ≤ 1024 := by
  rw [St.list_length hS, hS.live]
  have h1 := List.count_le_length (a := true) (l := S.used)
  have h2 := hS.ul
  have h3 := hS.le
  have h4 := hS.n2
  omega
theorem lst_len6 {C : List Cp} (h : lst (-1) C = 0) : C.length ≤ 6 := by
  rw [← comps_of h rfl, List.length_map]
  exact Nat.le_trans (List.length_filter_le _ _) (by simp)
theorem Own.rcs2 {w0 w : World} {l : List Thing} {ao : Option Addr} {cap n : Nat} {L : List Cp} (h : Own w0 w (Row 58 4 (.slice ao n cap) n (ccat L) :: l)) (hn : L.length = n) : Cs w ao L := Own.cs (h.view (by decide)) hn
/-- has an entity all of these kinds, and none of those? -/
def fitb (a n m : Nat) : Bool := decide (m &&& a = a) && decide (m &&& n = 0)
def Sto.find (σ : Sto) (a n : Nat) : List Nat := σ.S.list.filter (fun id => fitb a n (msk (σ.cps id)))
def boxes (B : Nat) (p : Option Addr) (a n : Nat) (Z : List Thing) : List Thing := Cells B #[.pointer p] 24 :: Cells (B + 1) #[.int .u8 (a : Int)] 5 :: Cells (B + 2) #[.int .u8 (n : Int)] 5 :: Z
set_option maxHeartbeats 1000000 in
theorem fitting_ok (w0 w : World) (l : List Thing) (h : Own w0 w l) (p : Option Addr) (a n : Nat) :
    Calls Tryd.prog 28 #[.pointer p, .int .u8 (a : Int), .int .u8 (n : Int)] w fun e w' => e = .returned (.func (.func 54) #[] #[.pointer (some ⟨w.heap.size, 0, none⟩), .pointer (some ⟨w.heap.size + 1, 0, none⟩), .pointer (some ⟨w.heap.size + 2, 0, none⟩)]) ∧ Own w0 w' (boxes w.heap.size p a n l) ∧ w'.heap.size = w.heap.size + 3 := by
  have H : Hid (Own w0 _ _) := ((h.allocC #[.pointer p] 24).allocC #[.int .u8 (a : Int)] 5).allocC #[.int .u8 (n : Int)] 5
  clear h
  go_enter Tryd.func28, Tryd.ntmps28
  go_wp2
  go_ret
  refine ⟨rfl, ?_, by simp⟩
  have h := H.out
  simp only [World.size_alloc] at h
  exact h.three.in23
set_option maxHeartbeats 4000000 in
theorem fit_seq (w0 : World) (b : Nat) (σ : Sto) (K : Nat) (hσ : σ.Ok) (hK : K ≤ 1000000) (hLV : ∀ id ∈ σ.S.list, σ.S.isLive id = true ∧ id < 4294967296) (B a n : Nat) (ha8 : a < 256) (hn8 : n < 256) (Z Y : List Nat → List Thing) (ht : Tab w0) (hM : ∀ (w : World) (ao : Option Addr) (len cap : Nat) (C : List Cp), C.length = len → Cs w ao C → (∀ q ∈ C, q.k < 256) → len ≤ 1000000 → Calls Tryd.prog 56 #[.slice ao len cap] w fun e w' => e = .returned (.int .u8 ((msk C : Nat) : Int)) ∧ Fr Nobody w w') :
    Seq 3 Tryd.prog 54 #[.pointer (some ⟨B, 0, none⟩), .pointer (some ⟨B + 1, 0, none⟩), .pointer (some ⟨B + 2, 0, none⟩)] w0 (fun id : Nat => #[.int .u32 (id : Int)]) (fun pre => boxes B (some ⟨b, 0, none⟩) a n (Store b σ K :: Z pre)) Y (fun xs => xs <+: σ.find a n) (fun xs => xs = σ.find a n) (fun xs => xs <+: σ.find a n) := by
  intro l R R2 W hY hO
  have HY : Hid _ := hY
  have HL : Hid (Calls _ _ _ _ _) := slist w0 W _ b σ K (Own.four hO) hσ.s
  have q0 := Own.cell hO 0
  simp at q0
  clear hY hO
  refine callsIn_of_wp Tryd.func54 rfl trivial ?_ rfl
  simp only [Tryd.ntmps54, List.size_toArray, List.length_cons, List.length_nil, Nat.reduceAdd, Nat.reduceSub, Array.replicate_succ, Array.replicate_zero, List.push_toArray, List.append_toArray, List.nil_append, List.cons_append]
  gi_wp2_with fail
  refine ⟨trivial, (callsIn_wide.2 HL.out).mono ?_⟩
  rintro e w1 ⟨v, rfl, hO1⟩
  obtain ⟨va, vc, rfl⟩ := row_any hO1.row
  have H1 : Hid (Own w0 w1 (boxes B (some ⟨b, 0, none⟩) a n (Store b σ K :: Z []) ++ ([Row 44 1 (.slice va σ.S.list.length vc) σ.S.list.length (irow .u32 σ.S.list)] ++ R))) := (Own.sink (l := Store b σ K :: Cells B #[.pointer (some ⟨b, 0, none⟩)] 24 :: Cells (B + 1) #[.int .u8 (a : Int)] 5 :: Cells (B + 2) #[.int .u8 (n : Int)] 5 :: Z []) (m := R) hO1).back4
  have hn24 := list_len2 hσ.s
  clear hO1 HL q0
  have HEN : Hid (∀ w' l' (j id : Nat), σ.S.list[j]? = some id → Own w0 w' (Store b σ K :: l') → Calls Tryd.prog 19 #[.pointer (some ⟨b, 0, none⟩), .int .u32 (id : Int)] w' fun e w'' => ∃ ao cap, e = .returned (.tuple #[.agg #[.int .u32 (id : Int), .slice ao (σ.cps id).length cap], .int .i64 0]) ∧ Own w0 w'' (Row 58 4 (.slice ao (σ.cps id).length cap) (σ.cps id).length (ccat (σ.cps id)) :: Store b σ K :: l')) := by
    intro w' l' j id hj h'
    obtain ⟨hl, h32⟩ := hLV id (List.mem_of_getElem? hj)
    obtain ⟨r, C, hr, he, _⟩ := hσ.ent hl
    rw [Sto.cps_of hr he]
    exact sent w0 w' l' b σ K h' hσ id h32 hl r C he hK
  have HCP : Hid (∀ (j id : Nat), σ.S.list[j]? = some id → (∀ q ∈ σ.cps id, q.k < 256) ∧ (σ.cps id).length ≤ 6) := by
    intro j id hj
    obtain ⟨hl, h32⟩ := hLV id (List.mem_of_getElem? hj)
    obtain ⟨r, C, hr, he, hlC, _⟩ := hσ.ent hl
    rw [Sto.cps_of hr he]
    exact ⟨fun q hq => by have := chk_k ((lst_ok hlC).2 q hq).2; omega, lst_len6 hlC⟩
  have HFD : Hid (∀ (j id : Nat), σ.S.list[j]? = some id → ((σ.S.list.take (j + 1)).filter (fun id => fitb a n (msk (σ.cps id)))) = (σ.S.list.take j).filter (fun id => fitb a n (msk (σ.cps id))) ++ (if fitb a n (msk (σ.cps id)) then [id] else [])) := by
    intro j id hj
    rw [List.take_add_one, hj, List.filter_append]
    by_cases h : fitb a n (msk (σ.cps id)) = true <;> simp [h]
  have HAL : Hid ((σ.S.list.take σ.S.list.length).filter (fun id => fitb a n (msk (σ.cps id))) = σ.find a n) := by show _ = _; rw [List.take_length]; rfl
  clear hσ hLV
  obtain ⟨IL, hIL⟩ : ∃ I, I = σ.S.list := ⟨_, rfl⟩
  simp only [← hIL] at H1 hn24 HEN HCP HFD HAL ⊢
  generalize hln : IL.length = nl at *
  have HN : Hid (IL.length = nl) := hln
  clear hln hIL
  gi_wp2
  gi_loopw [13] (fun cv wr => ∃ j : Nat, j ≤ nl ∧ cv = .int .i64 j ∧ Own w0 wr (boxes B (some ⟨b, 0, none⟩) a n (Store b σ K :: Z ((IL.take j).filter (fun id => fitb a n (msk (σ.cps id))))) ++ ([Row 44 1 (.slice va nl vc) nl (irow .u32 IL)] ++ R))) (fun cv _ => nl - (intOf cv).toNat)
  case atStart => exact ⟨0, Nat.zero_le _, rfl, H1.out⟩
  case round =>
    obtain ⟨j, hj, rfl, hO⟩ := hrel
    have HO : Hid (Own w0 wr _) := hO
    clear H1
    by_cases hlt : j < nl
    · have hlt' : (j : Int) < (nl : Int) := by omega
      obtain ⟨id, hid⟩ : ∃ id, IL[j]? = some id := ⟨_, List.getElem?_eq_getElem (by rw [HN.out]; exact hlt)⟩
      have hr := Own.pull (T := []) (B := R) hO
      obtain ⟨g, cp, hv, _⟩ := row_shape hr.row (by omega)
      have hva := (Value.slice.inj hv).1
      subst hva
      have c0 : wr.cell? ⟨g, j, none⟩ = some (.int .u32 (id : Int)) := by
        rw [hr.row.cellAt _ (by omega), getElem?_irow, hid]; rfl
      have q0 := Own.cell hO 0
      simp at q0
      have HE : Hid (Calls _ _ _ _ _) := HEN.out wr _ j id hid (Own.four hO)
      obtain ⟨hCk, hC6⟩ := HCP.out j id hid
      have HST := HFD.out j id hid
      have HFJ : Hid ((IL.take (j + 1)).filter (fun id => fitb a n (msk (σ.cps id))) = (IL.take j).filter (fun id => fitb a n (msk (σ.cps id))) ++ (if fitb a n (msk (σ.cps id)) then [id] else [])) := HST
      clear hr hv hO hid HST
      have HP2 : Hid (∀ p : List Nat → Prop, p ((IL.take j).filter (fun id => fitb a n (msk (σ.cps id))) ++ (if fitb a n (msk (σ.cps id)) then [id] else [])) → p ((IL.take (j + 1)).filter (fun id => fitb a n (msk (σ.cps id))))) := fun p hp => by rw [HFJ.out]; exact hp
      have HG : Hid (fitb a n (msk (σ.cps id)) = true → (IL.take j).filter (fun id => fitb a n (msk (σ.cps id))) ++ [id] <+: σ.find a n) := fun hb => by
        have h1 : (IL.take (j + 1)).filter (fun id => fitb a n (msk (σ.cps id))) <+: (IL.take nl).filter (fun id => fitb a n (msk (σ.cps id))) := (List.take_prefix_take_left (by omega)).filter _
        rw [HAL.out, HFJ.out, if_pos hb] at h1
        exact h1
      clear HFJ
      generalize (IL.take j).filter (fun id => fitb a n (msk (σ.cps id))) = pre at *
      obtain ⟨fb, hfb⟩ : ∃ fb, fb = fitb a n (msk (σ.cps id)) := ⟨_, rfl⟩
      rw [← hfb] at HP2 HG
      have HFB : Hid (fb = fitb a n (msk (σ.cps id))) := hfb
      clear hfb
      generalize σ.cps id = C at HE hCk hC6 HFB
      generalize hcl : C.length = cl at *
      gi_wp2_with fail
      refine ⟨trivial, (callsIn_wide.2 HE.out).mono ?_⟩
      rintro e w2 ⟨ga, gc, rfl, hO2⟩
      have hB := hO2.allocC #[.int .u32 (id : Int), .slice ga cl gc] 51
      have x1 := hB.cell 1
      simp at x1
      have HMK : Hid (Calls _ _ _ _ _) := hM _ ga cl gc C hcl (Own.rcs2 hB.two hcl) hCk (by omega)
      have HB : Hid (Own w0 _ _) := hB
      clear hO2 hB HE c0 q0
      gi_wp2_with fail
      refine ⟨trivial, (callsIn_wide.2 HMK.out).mono ?_⟩
      rintro e w3 ⟨rfl, hf⟩
      have hO3 := (HB.out.quiet hf).tail.tail.back4
      have q1 := hO3.two.cell 0
      have q2 := hO3.three.cell 0
      simp at q1 q2
      have H3 : Hid (Own w0 w3 (boxes B (some ⟨b, 0, none⟩) a n (Store b σ K :: Z pre) ++ ([Row 44 1 (.slice (some ⟨g, 0, none⟩) nl vc) nl (irow .u32 IL)] ++ R))) := hO3
      have hm64 := msk_lt C
      clear hf HMK HB hO3 x1 hcl hCk
      generalize msk C = m at *
      have e1 := u8_and_nat m a (by omega) (by omega)
      have e2 := u8_and_nat m n (by omega) (by omega)
      by_cases h1 : m &&& a = a
      · rw [h1] at e1
        have t1 : ((a : Int) == (a : Int)) = true := by simp
        by_cases h2 : m &&& n = 0
        · rw [h2] at e2
          have hfb : fb = true := by rw [HFB.out]; simp [fitb, h1, h2]
          rw [if_pos hfb] at HP2
          have hGG := HG.out hfb
          have HGG : Hid (pre ++ [id] <+: σ.find a n) := hGG
          obtain ⟨fn, tmps, assign, body, hy, hR⟩ := HY.out pre id w3 _ hGG H3.out
          clear hGG
          clear hfb h1 h2 HFB
          gi_wp2
          refine hR.mono ?_
          rintro e w4 (⟨rfl, hO4⟩ | ⟨rfl, hO4⟩)
          · have H4 : Hid (Own w0 w4 _) := hO4
            clear hO4 hR hy
            gi_wp2
            refine ⟨⟨j + 1, by omega, by go_num, HP2.out (fun p => Own w0 w4 (boxes B (some ⟨b, 0, none⟩) a n (Store b σ K :: Z p) ++ ([Row 44 1 (.slice (some ⟨g, 0, none⟩) nl vc) nl (irow .u32 IL)] ++ R))) H4.out⟩, ?_⟩
            simp [intOf]; omega
          · have H4 : Hid (Own w0 w4 _) := hO4
            clear hO4 hR hy
            gi_wp2
            refine bodyPost_ret (results_none rfl _ _ _) rfl ?_
            refine ⟨⟨_, rfl⟩, .inr ⟨pre ++ [id], HGG.out, ?_⟩⟩
            exact (Own.pull (T := []) (B := R2) H4.out).tail
        · have t2 : (((m &&& n : Nat) : Int) == 0) = false := by rw [beq_eq_false_iff_ne]; omega
          have hfb : ¬ fb = true := by rw [HFB.out]; simp [fitb, h2]
          rw [if_neg hfb, List.append_nil] at HP2
          clear h2 hfb HFB
          generalize (m &&& n) = mn at *
          gi_wp2
          refine ⟨fun _ h => (by cases h), ?_⟩
          gi_wp2
          all_goals exact ⟨⟨j + 1, by omega, by go_num, HP2.out (fun p => Own w0 w3 (boxes B (some ⟨b, 0, none⟩) a n (Store b σ K :: Z p) ++ ([Row 44 1 (.slice (some ⟨g, 0, none⟩) nl vc) nl (irow .u32 IL)] ++ R))) H3.out⟩, by simp [intOf]; omega⟩
      · have t1 : (((m &&& a : Nat) : Int) == (a : Int)) = false := by rw [beq_eq_false_iff_ne]; omega
        have hfb : ¬ fb = true := by rw [HFB.out]; simp [fitb, h1]
        rw [if_neg hfb, List.append_nil] at HP2
        clear h1 hfb HFB e2
        generalize (m &&& a) = ma at *
        gi_wp2
        refine ⟨fun _ h => (by cases h), ?_⟩
        gi_wp2
        all_goals exact ⟨⟨j + 1, by omega, by go_num, HP2.out (fun p => Own w0 w3 (boxes B (some ⟨b, 0, none⟩) a n (Store b σ K :: Z p) ++ ([Row 44 1 (.slice (some ⟨g, 0, none⟩) nl vc) nl (irow .u32 IL)] ++ R))) H3.out⟩, by simp [intOf]; omega⟩
    · have hlt' : ¬ (j : Int) < (nl : Int) := by omega
      have hjn : j = nl := by omega
      subst hjn
      clear hO
      gi_wp2
      go_end0
      refine ⟨⟨_, rfl⟩, .inl ?_⟩
      have h5 := (Own.pull (T := []) (B := R) HO.out).tail
      rw [HAL.out] at h5
      exact h5
/-- what the iterator over the entities of a store gives -/
def IterC (w0 : World) (p : Option Addr) (a n : Nat) (SG : Thing) (Xs : List Nat) : Prop := ∀ (B : Nat) (Z Y : List Nat → List Thing),
  Seq 3 Tryd.prog 54 #[.pointer (some ⟨B, 0, none⟩), .pointer (some ⟨B + 1, 0, none⟩), .pointer (some ⟨B + 2, 0, none⟩)] w0 (fun id : Nat => #[.int .u32 (id : Int)]) (fun pre => boxes B p a n (SG :: Z pre)) Y (fun xs => xs <+: Xs) (fun xs => xs = Xs) (fun xs => xs <+: Xs)
theorem iter_store (w0 : World) (b : Nat) (σ : Sto) (K : Nat) (hσ : σ.Ok) (hK : K ≤ 1000000) (hLV : ∀ id ∈ σ.S.list, σ.S.isLive id = true ∧ id < 4294967296) (a n : Nat) (ha8 : a < 256) (hn8 : n < 256) (ht : Tab w0) : IterC w0 (some ⟨b, 0, none⟩) a n (Store b σ K) (σ.find a n) :=
  fun B Z Y => fit_seq w0 b σ K hσ hK hLV B a n ha8 hn8 Z Y ht (fun w ao len cap C h1 h2 h3 h4 => mask_any w ao len cap C h1 h2 h3 h4)
/-- nothing -/
def Nil : Thing := Ex (fun _ : Unit => [])
theorem Own.nil_iff {w0 w : World} {l : List Thing} : Own w0 w (Nil :: l) ↔ Own w0 w l :=
  ⟨fun h => by obtain ⟨_, h⟩ := Own.ex_iff.1 h; exact h, fun h => Own.ex_iff.2 ⟨(), h⟩⟩
set_option maxHeartbeats 400000 in
theorem slist_nil (w : World) : Calls Tryd.prog 55 #[.pointer none] w fun e w' => e = .returned (.slice none 0 0) ∧ w' = w := by
  go_enter Tryd.func55, Tryd.ntmps55
  go_wp2_with (go_at_call 77; refine (sused_nil _).mono ?_; rintro e w' ⟨rfl, rfl⟩)
  refine (list_nil _).mono ?_
  rintro e w' ⟨rfl, rfl⟩
  go_wp2
  go_ret
  exact ⟨rfl, rfl⟩
set_option maxHeartbeats 1000000 in
theorem iter_nil (w0 : World) (a n : Nat) : IterC w0 none a n Nil [] := by
  intro B Z Y l R R2 W hY hO
  have q0 := Own.cell hO 0
  simp at q0
  have H1 : Hid (Own w0 W _) := hO
  have HL : Hid (Calls _ _ _ _ _) := slist_nil W
  clear hY hO
  refine callsIn_of_wp Tryd.func54 rfl trivial ?_ rfl
  simp only [Tryd.ntmps54, List.size_toArray, List.length_cons, List.length_nil, Nat.reduceAdd, Nat.reduceSub, Array.replicate_succ, Array.replicate_zero, List.push_toArray, List.append_toArray, List.nil_append, List.cons_append]
  gi_wp2_with fail
  refine ⟨trivial, (callsIn_wide.2 HL.out).mono ?_⟩
  rintro e w1 ⟨rfl, rfl⟩
  clear HL q0
  gi_wp2
  gi_loopw [13] (fun cv wr => cv = .int .i64 0 ∧ Own w0 wr (boxes B none a n (Nil :: Z []) ++ R)) (fun _ _ => 0)
  case atStart => exact ⟨rfl, H1.out⟩
  case round =>
    obtain ⟨rfl, hO⟩ := hrel
    have HO : Hid (Own w0 wr _) := hO
    clear hO H1
    gi_wp2
    go_end0
    exact ⟨⟨_, rfl⟩, .inl ⟨_, rfl, HO.out⟩⟩
end Go.Proofs.YtcpknpgeiafkoaaDoor

/-
  Query: With.
-/
namespace Go.Proofs.YtcpknpgeiafkoaaDoor
open Go.RowKit Go.Maps Go.Shelf
set_option linter.unusedVariables false
set_option maxRecDepth 100000
attribute [local go_sem] Oper.semAt_some

theorem append1_in {F : Fence} {m : Nat} {P : Program} {w0 w : World} {l : List Thing} {ops : Array Oper} {rest : List Oper} {o : Oper} {a : Act} {Q : Exit → Act → World → Prop} (hgd : o.guard = none) (s x : Operand) (t : TypeId)
    (ho : o.op = .call { callee := .builtin .append, args := #[s, x], argTypes := #[t, t] })
    (e : TypeId) (i : TypeInfo) (z : Value) (size bytes : Nat) (ht : P.underlying t = some (.slice e)) (hi : P.info? e = some i) (hz : i.zero = some z)
    (hsize : i.size = size) (hby : i.bytes = bytes) (hzs : z.cells.size = size) (hsz : 0 < size)
    (v : Value) (n : Nat) (xs : List Value) (hs : a.eval s = v) (hown : Own w0 w (Row e size v n xs :: l))
    (k : Nat) (cs : Array Value) (hk : k = w.heap.size) (hx : a.eval x = .slice (some ⟨k, 0, none⟩) 1 1) (hl : cs.size = size) (h1 : ∀ u ∈ cs.toList, u.oneCell' = true)
    (h63 : n + 1 ≤ maxLen) (hbytes : (n + 1) * bytes ≤ 140737488355328)
    (h : ∀ g cap w', Own w0 w' (Row e size (.slice (some ⟨g, 0, none⟩) (n + 1) cap) (n + 1) (xs ++ cs.toList) :: l) → wpListIn F m P ops Q rest (a.put o.dst (.slice (some ⟨g, 0, none⟩) (n + 1) cap)) w') : wpListIn F m P ops Q (o :: rest) a (w.alloc (.cells cs e)) := by
  refine wpListIn_plain hgd fun K hK' => ?_
  obtain ⟨g, cap, w', hrun, hO⟩ := run1_own (P := P) t o.type e i z size bytes ht hi hz hsize hby hzs hsz v n xs hown cs hl h1 h63 hbytes
  subst hk
  unfold Oper.wpIn
  refine ⟨?_, ?_⟩
  · simp [Oper.about, ho, resolve, Target.leads, Sem.run_pure]
  · rw [Oper.semAt_plain F _ _ (by rw [ho]; intro c hc'; cases hc')]
    simp [execOp, ho, resolve, invoke, builtin, hs, hx, hrun, Result.andThen]
    exact hK' _ _ (h g cap w' hO)
theorem Own.fiv {w0 w : World} {P Q R S T : Thing} {l : List Thing} (h : Own w0 w (P :: Q :: R :: S :: T :: l)) : Own w0 w (T :: P :: Q :: R :: S :: l) := h.perm (List.perm_middle (l₁ := [P, Q, R, S]) (a := T) (l₂ := l))
theorem Own.bfiv {w0 w : World} {P Q R S T : Thing} {l : List Thing} (h : Own w0 w (T :: P :: Q :: R :: S :: l)) : Own w0 w (P :: Q :: R :: S :: T :: l) := h.perm (List.perm_middle (l₁ := [P, Q, R, S]) (a := T) (l₂ := l)).symm
/-- what is never there -/
def Never : Thing := ⟨fun _ _ => False, fun h _ => h.elim, fun h _ _ => h⟩
theorem Own.never {w0 w : World} {l : List Thing} (h : Own w0 w (Never :: l)) : False := by
  obtain ⟨_, ⟨_, _, h, _⟩, _⟩ := h
  exact h
/-- a variable that holds a slice of IDs -/
def Coll (B : Nat) (L : List Nat) : Thing := Ex (fun v : Value => [Cells B #[v] 28, Row 44 1 v L.length (irow .u32 L)])
theorem Coll.open {w0 w : World} {B : Nat} {L : List Nat} {l : List Thing} (h : Own w0 w (Coll B L :: l)) : ∃ ao cap, Own w0 w (Cells B #[.slice ao L.length cap] 28 :: Row 44 1 (.slice ao L.length cap) L.length (irow .u32 L) :: l) := by
  obtain ⟨v, h⟩ := Own.ex_iff.1 h
  have h' : Own w0 w (Cells B #[v] 28 :: Row 44 1 v L.length (irow .u32 L) :: l) := h
  obtain ⟨ao, cap, rfl⟩ := row_any h'.two.row
  exact ⟨ao, cap, h'⟩
theorem Coll.shut {w0 w : World} {B : Nat} {L : List Nat} {v : Value} {l : List Thing} (h : Own w0 w (Cells B #[v] 28 :: Row 44 1 v L.length (irow .u32 L) :: l)) : Own w0 w (Coll B L :: l) := Own.ex_iff.2 ⟨v, h⟩
theorem Sto.find_len {σ : Sto} (hσ : σ.S.Ok) (a n : Nat) : (σ.find a n).length ≤ 1024 := Nat.le_trans (List.length_filter_le _ _) (list_len2 hσ)
set_option maxHeartbeats 4000000 in
theorem with_g (w0 w : World) (l : List Thing) (p : Option Addr) (SG : Thing) (Xs : List Nat) (h : Own w0 w (SG :: l)) (a n : Nat) (hI : IterC w0 p a n SG Xs) (hfl : Xs.length ≤ 1024) :
    Calls Tryd.prog 9 #[.pointer p, .int .u8 (a : Int), .int .u8 (n : Int)] w fun e w' => ∃ ao cap, e = .returned (.slice ao Xs.length cap) ∧ Own w0 w' (Row 44 1 (.slice ao Xs.length cap) Xs.length (irow .u32 Xs) :: SG :: l) := by
  obtain ⟨i0, hi, hz0, hz1, hz2⟩ := info_parts Tryd.infoID2
  have hA : Own w0 (w.alloc (.cells #[.slice none 0 0] 28)) (Coll w.heap.size [] :: SG :: l) := by
    have k := (h.nilRow 44 1).allocC #[.slice none 0 0] 28
    exact Coll.shut k
  have HF : Hid (Calls _ _ _ _ _) := fitting_ok w0 _ _ hA.two p a n
  have HSQ : Hid (IterC w0 p a n SG Xs) := hI
  clear h hA hI
  refine (callsIn_wide (n := 4)).1 ?_
  refine callsIn_of_wp_marks Tryd.func9 rfl trivial ?_ rfl
  simp only [Tryd.ntmps9, List.size_toArray, List.length_cons, List.length_nil, Nat.reduceAdd, Nat.reduceSub, Array.replicate_succ, Array.replicate_zero, List.push_toArray, List.append_toArray, List.nil_append, List.cons_append]
  gi_wp2_with fail
  refine ⟨trivial, (callsIn_wide.2 HF.out).mono ?_⟩
  rintro e w1 ⟨rfl, hO1, _⟩
  simp only [World.size_alloc] at hO1 ⊢
  have H1 : Hid (Own w0 w1 _) := hO1
  clear hO1 HF
  gi_wp2_with fail
  refine range_things (n := 4) rfl (enters_of Tryd.func54 (by kernel_rfl) rfl) (fun pre => boxes (w.heap.size + 1) p a n (SG :: Coll w.heap.size pre :: l)) (fun _ => [Never]) .skip (HSQ.out _ (fun pre => Coll w.heap.size pre :: l) (fun _ => [Never])) (fun _ => rfl) H1.out
    (fun x => { tmps := #[.pointer p, .int .u8 (a : Int), .int .u8 (n : Int), undef, undef, undef, .slice none 0 0, .pointer (some ⟨w.heap.size, 0, none⟩), .int .u32 (x : Int), .pointer p, .int .u8 (a : Int), .int .u8 (n : Int), .func (.func 54) #[] #[.pointer (some ⟨w.heap.size + 1, 0, none⟩), .pointer (some ⟨w.heap.size + 1 + 1, 0, none⟩), .pointer (some ⟨w.heap.size + 1 + 2, 0, none⟩)], .int .u32 (x : Int), undef, undef, undef, undef, undef], defers := [] }) ?assign ?body ?done ?stop
  case assign =>
    intro l' x W K hK
    gi_wp2
    exact hK
  case body =>
    intro l' pre x W R hG hO
    have hpl : pre.length + 1 ≤ 1024 := by have := hG.length_le; simp at this; omega
    obtain ⟨ao, cap, hO⟩ := Coll.open (Own.fiv hO)
    have q0 := hO.cell 0
    simp at q0
    have HO : Hid (Own w0 W _) := hO
    have hB0 := hO.lt
    generalize hpn : pre.length = pn at *
    have HPN : Hid (pre.length = pn) := hpn
    clear hO hG hpn
    gi_wp2_with (gi_at_builtin; refine append1_in rfl _ _ 28 rfl 44 i0 (.int .u32 0) 1 4 Tryd.underlying28 hi hz0 hz1 hz2 rfl (by decide) _ pn _ rfl HO.out.two _ _ (by simp) rfl rfl (one_int _ _) (by unfold maxLen; omega) (by omega) ?_)
    intro g' cap' w2 hO2
    have q1 := hO2.two.cell 0
    have y1 := hO2.two.froz 0
    simp at q1
    have H2 : Hid (Own w0 _ _) := hO2.two.setC 0 (.slice (some ⟨g', 0, none⟩) (pn + 1) cap')
    clear hO2 HO q0
    gi_wp2
    have h3 : Own w0 _ (Coll w.heap.size (pre ++ [x]) :: _) := Coll.shut (v := .slice (some ⟨g', 0, none⟩) (pn + 1) cap') (by rw [List.length_append, HPN.out]; simpa [irow] using H2.out)
    exact h3.bfiv
  case done =>
    intro D xs W hS hO
    subst hS
    have hO2 : Own w0 W (Coll w.heap.size xs :: Objt D (.deferred (some [])) :: boxes (w.heap.size + 1) p a n (SG :: l)) := hO.perm (List.perm_middle (l₁ := [Objt D (.deferred (some [])), Cells (w.heap.size + 1) #[.pointer p] 24, Cells (w.heap.size + 1 + 1) #[.int .u8 (a : Int)] 5, Cells (w.heap.size + 1 + 2) #[.int .u8 (n : Int)] 5, SG]) (l₂ := l))
    obtain ⟨ao, cap, hO3⟩ := Coll.open hO2
    have q0 := hO3.cell 0
    simp at q0
    have hK := hO3.three.objt
    have H4 : Hid (Own w0 (W.putObj D (.deferred none)) _) := hO3.three.putO (.deferred none)
    clear hO hO2 hO3
    gi_wp2
    refine ⟨by simp, .inl ⟨_, _, rfl, run_takeDeferred hK, ?_⟩⟩
    exact ⟨_, results_tmp rfl _ _ _, ao, cap, rfl, H4.out.tail.tail.two.tail.two.tail.two.tail⟩
  case stop =>
    intro D pre W hS hO
    exact (hO.tail.never).elim
end Go.Proofs.YtcpknpgeiafkoaaDoor

/-
  Query: Count, Page.
-/
namespace Go.Proofs.YtcpknpgeiafkoaaDoor
open Go.RowKit Go.Maps Go.Shelf
set_option linter.unusedVariables false
set_option maxRecDepth 100000
attribute [local go_sem] Oper.semAt_some

set_option maxHeartbeats 4000000 in
theorem count_g (w0 w : World) (l : List Thing) (p : Option Addr) (SG : Thing) (Xs : List Nat) (h : Own w0 w (SG :: l)) (a n : Nat) (hI : IterC w0 p a n SG Xs) (hfl : Xs.length ≤ 1024) :
    Calls Tryd.prog 13 #[.pointer p, .int .u8 (a : Int), .int .u8 (n : Int)] w fun e w' => e = .returned (.int .i64 (Xs.length : Int)) ∧ Own w0 w' (SG :: l) := by
  have hA : Own w0 (w.alloc (.cells #[.int .i64 0] 3)) (Cells w.heap.size #[.int .i64 (([] : List Nat).length : Int)] 3 :: SG :: l) := h.allocC #[.int .i64 0] 3
  have HF : Hid (Calls _ _ _ _ _) := fitting_ok w0 _ _ hA.two p a n
  have HSQ : Hid (IterC w0 p a n SG Xs) := hI
  clear h hA hI
  refine (callsIn_wide (n := 4)).1 ?_
  refine callsIn_of_wp_marks Tryd.func13 rfl trivial ?_ rfl
  simp only [Tryd.ntmps13, List.size_toArray, List.length_cons, List.length_nil, Nat.reduceAdd, Nat.reduceSub, Array.replicate_succ, Array.replicate_zero, List.push_toArray, List.append_toArray, List.nil_append, List.cons_append]
  gi_wp2_with fail
  refine ⟨trivial, (callsIn_wide.2 HF.out).mono ?_⟩
  rintro e w1 ⟨rfl, hO1, _⟩
  simp only [World.size_alloc] at hO1 ⊢
  have H1 : Hid (Own w0 w1 _) := hO1
  clear hO1 HF
  gi_wp2_with fail
  refine range_things (n := 4) rfl (enters_of Tryd.func54 (by kernel_rfl) rfl) (fun pre => boxes (w.heap.size + 1) p a n (SG :: Cells w.heap.size #[.int .i64 (pre.length : Int)] 3 :: l)) (fun _ => [Never]) .skip (HSQ.out _ (fun pre => Cells w.heap.size #[.int .i64 (pre.length : Int)] 3 :: l) (fun _ => [Never])) (fun _ => rfl) H1.out
    (fun x => { tmps := #[.pointer p, .int .u8 (a : Int), .int .u8 (n : Int), undef, undef, undef, .int .i64 0, .pointer (some ⟨w.heap.size, 0, none⟩), .pointer p, .int .u8 (a : Int), .int .u8 (n : Int), .func (.func 54) #[] #[.pointer (some ⟨w.heap.size + 1, 0, none⟩), .pointer (some ⟨w.heap.size + 1 + 1, 0, none⟩), .pointer (some ⟨w.heap.size + 1 + 2, 0, none⟩)], .int .u32 (x : Int), undef, undef, undef], defers := [] }) ?assign ?body ?done ?stop
  case assign =>
    intro l' x W K hK
    gi_wp2
    simpa using hK
  case body =>
    intro l' pre x W R hG hO
    have hpl : pre.length + 1 ≤ 1024 := by have := hG.length_le; simp at this; omega
    have hO1 := Own.fiv hO
    have q0 := hO1.cell 0
    have y0 := hO1.froz 0
    simp at q0
    have H2 : Hid (Own w0 _ _) := (hO1.setC 0 (.int .i64 ((pre.length : Int) + 1))).bfiv
    have hln : (pre ++ [x]).length = pre.length + 1 := by simp
    have HLN : Hid ((pre ++ [x]).length = pre.length + 1) := hln
    clear hO hO1 hG hln
    generalize pre.length = pn at *
    have hpi : (pn : Int) + 1 ≤ 1024 := by omega
    gi_wp2
    show Own w0 _ (boxes (w.heap.size + 1) p a n (SG :: Cells w.heap.size #[.int .i64 ((pre ++ [x]).length : Int)] 3 :: l) ++ R)
    rw [HLN.out, Int.natCast_add]
    exact H2.out
  case done =>
    intro D xs W hS hO
    subst hS
    have hO2 : Own w0 W (Cells w.heap.size #[.int .i64 (xs.length : Int)] 3 :: Objt D (.deferred (some [])) :: boxes (w.heap.size + 1) p a n (SG :: l)) := hO.perm (List.perm_middle (l₁ := [Objt D (.deferred (some [])), Cells (w.heap.size + 1) #[.pointer p] 24, Cells (w.heap.size + 1 + 1) #[.int .u8 (a : Int)] 5, Cells (w.heap.size + 1 + 2) #[.int .u8 (n : Int)] 5, SG]) (l₂ := l))
    have q0 := hO2.cell 0
    simp at q0
    have hK := hO2.two.objt
    have H4 : Hid (Own w0 (W.putObj D (.deferred none)) _) := hO2.two.putO (.deferred none)
    clear hO hO2
    gi_wp2
    refine ⟨by simp, .inl ⟨_, _, rfl, run_takeDeferred hK, ?_⟩⟩
    exact ⟨_, results_tmp rfl _ _ _, rfl, H4.out.tail.tail.tail.tail.tail⟩
  case stop =>
    intro D pre W hS hO
    exact (hO.tail.never).elim

/-- of these IDs the first m whose slot is f or more -/
def pgl (f : Int) (m : Nat) (L : List Nat) : List Nat := (L.filter (fun id => decide (f ≤ ((id % 1024 : Nat) : Int)))).take m
theorem pgl_len (f : Int) (m : Nat) (L : List Nat) : (pgl f m L).length ≤ L.length := Nat.le_trans (by unfold pgl; rw [List.length_take]; exact Nat.min_le_right _ _) (List.length_filter_le _ _)
theorem pgl_full {f : Int} {m : Nat} {A Xs : List Nat} (h : A <+: Xs) (hl : m ≤ (pgl f m A).length) : pgl f m Xs = pgl f m A := by
  obtain ⟨B, rfl⟩ := h
  unfold pgl at hl ⊢
  rw [List.filter_append, List.take_append_of_le_length]
  rw [List.length_take] at hl
  omega
theorem pgl_snoc (f : Int) (m : Nat) (A : List Nat) (x : Nat) (hl : (pgl f m A).length < m) : pgl f m (A ++ [x]) = if f ≤ ((x % 1024 : Nat) : Int) then pgl f m A ++ [x] else pgl f m A := by
  unfold pgl at hl ⊢
  have h2 : (A.filter (fun id => decide (f ≤ ((id % 1024 : Nat) : Int)))).length < m := by rw [List.length_take] at hl; omega
  rw [List.filter_append, List.take_of_length_le (Nat.le_of_lt h2)]
  by_cases c : f ≤ ((x % 1024 : Nat) : Int)
  · rw [if_pos c]
    have : [x].filter (fun id => decide (f ≤ ((id % 1024 : Nat) : Int))) = [x] := by simp only [List.filter_cons, decide_eq_true c, if_true, List.filter_nil]
    rw [this, List.take_of_length_le (by rw [List.length_append]; simp only [List.length_singleton]; omega)]
  · rw [if_neg c]
    have : [x].filter (fun id => decide (f ≤ ((id % 1024 : Nat) : Int))) = [] := by simp only [List.filter_cons, decide_eq_false c, List.filter_nil]; rfl
    rw [this, List.append_nil, List.take_of_length_le (Nat.le_of_lt h2)]
end Go.Proofs.YtcpknpgeiafkoaaDoor

/-
  Query: Page.
-/
namespace Go.Proofs.YtcpknpgeiafkoaaDoor
open Go.RowKit Go.Maps Go.Shelf
set_option linter.unusedVariables false
set_option maxRecDepth 100000
attribute [local go_sem] Oper.semAt_some

set_option maxHeartbeats 4000000 in
theorem page_g (w0 w : World) (l : List Thing) (p : Option Addr) (SG : Thing) (Xs : List Nat) (h : Own w0 w (SG :: l)) (a n : Nat) (f k : Int) (hI : IterC w0 p a n SG Xs) (hfl : Xs.length ≤ 1024) (hX : ∀ x ∈ Xs, x < 4294967296) :
    Calls Tryd.prog 14 #[.pointer p, .int .u8 (a : Int), .int .u8 (n : Int), .int .i64 f, .int .i64 k] w fun e w' => ∃ ao cap, e = .returned (.slice ao (pgl f k.toNat Xs).length cap) ∧ Own w0 w' (Row 44 1 (.slice ao (pgl f k.toNat Xs).length cap) (pgl f k.toNat Xs).length (irow .u32 (pgl f k.toNat Xs)) :: SG :: l) := by
  obtain ⟨i0, hi, hz0, hz1, hz2⟩ := info_parts Tryd.infoID2
  obtain ⟨m, hm⟩ : ∃ m, k.toNat = m := ⟨_, rfl⟩
  rw [hm]
  have hA : Own w0 (((w.alloc (.cells #[.int .i64 f] 3)).alloc (.cells #[.int .i64 k] 3)).alloc (.cells #[.slice none 0 0] 28)) (Coll (w.heap.size + 2) (pgl f m []) :: Cells w.heap.size #[.int .i64 f] 3 :: Cells (w.heap.size + 1) #[.int .i64 k] 3 :: SG :: l) := by
    have k1 := (((h.allocC #[.int .i64 f] 3).allocC #[.int .i64 k] 3).nilRow 44 1).allocC #[.slice none 0 0] 28
    simp only [World.size_alloc] at k1
    have e : pgl f m [] = [] := by simp [pgl]
    rw [e]
    exact Coll.shut (L := []) (Own.perm ((((List.Perm.swap _ _ _).cons _).cons _)) k1)
  have HF : Hid (Calls _ _ _ _ _) := fitting_ok w0 _ _ (hA.four) p a n
  have HSQ : Hid (IterC w0 p a n SG Xs) := hI
  have HX : Hid (∀ x ∈ Xs, x < 4294967296) := hX
  clear h hA hI hX
  have hfo : Tryd.prog.follows Departure.mixedOrders = true := by kernel_rfl
  refine (callsIn_wide (n := 4)).1 ?_
  refine callsIn_of_wp_marks Tryd.func14 rfl trivial ?_ rfl
  simp only [Tryd.ntmps14, List.size_toArray, List.length_cons, List.length_nil, Nat.reduceAdd, Nat.reduceSub, Array.replicate_succ, Array.replicate_zero, List.push_toArray, List.append_toArray, List.nil_append, List.cons_append]
  gi_wp2_with fail
  refine ⟨trivial, (callsIn_wide.2 HF.out).mono ?_⟩
  rintro e w1 ⟨rfl, hO1, _⟩
  simp only [World.size_alloc] at hO1 ⊢
  have H1 : Hid (Own w0 w1 _) := hO1
  clear hO1 HF
  gi_wp2_with fail
  refine range_things (n := 4) rfl (enters_of Tryd.func54 (by kernel_rfl) rfl) (fun pre => boxes (w.heap.size + 1 + 1 + 1) p a n (SG :: Coll (w.heap.size + 2) (pgl f m pre) :: Cells w.heap.size #[.int .i64 f] 3 :: Cells (w.heap.size + 1) #[.int .i64 k] 3 :: l)) (fun _ => boxes (w.heap.size + 1 + 1 + 1) p a n (SG :: Coll (w.heap.size + 2) (pgl f m Xs) :: Cells w.heap.size #[.int .i64 f] 3 :: Cells (w.heap.size + 1) #[.int .i64 k] 3 :: l)) (.exit 0) (HSQ.out _ (fun pre => Coll (w.heap.size + 2) (pgl f m pre) :: Cells w.heap.size #[.int .i64 f] 3 :: Cells (w.heap.size + 1) #[.int .i64 k] 3 :: l) _) (fun _ => rfl) H1.out
    (fun x => { tmps := #[.pointer p, .int .u8 (a : Int), .int .u8 (n : Int), .int .i64 f, .int .i64 k, undef, undef, undef, .pointer (some ⟨w.heap.size, 0, none⟩), .pointer (some ⟨w.heap.size + 1, 0, none⟩), .slice none 0 0, .pointer (some ⟨w.heap.size + 1 + 1, 0, none⟩), .int .u32 (x : Int), .pointer p, .int .u8 (a : Int), .int .u8 (n : Int), .func (.func 54) #[] #[.pointer (some ⟨w.heap.size + 1 + 1 + 1, 0, none⟩), .pointer (some ⟨w.heap.size + 1 + 1 + 1 + 1, 0, none⟩), .pointer (some ⟨w.heap.size + 1 + 1 + 1 + 2, 0, none⟩)], .int .u32 (x : Int), undef, undef, undef, undef, undef, undef, undef, undef, undef, undef, undef, undef, undef], defers := [] }) ?assign ?body ?done ?stop
  case assign =>
    intro l' x W K hK
    gi_wp2
    exact hK
  case body =>
    intro l' pre x W R hG hO
    have hx32 := HX.out x (hG.subset (by simp))
    have hpl : pre.length + 1 ≤ 1024 := by have := hG.length_le; simp at this; omega
    obtain ⟨ao, cap, hO1⟩ := Coll.open (Own.fiv hO)
    have q0 := hO1.cell 0
    have hO2 := hO1.tail.tail.tail.tail.tail.tail
    have q8 := hO2.cell 0
    have q9 := hO2.two.cell 0
    simp at q0 q8 q9
    have hgl := pgl_len f m pre
    have HO : Hid (Own w0 W _) := hO1
    have HPF : Hid (m ≤ (pgl f m pre).length → pgl f m Xs = pgl f m pre) := fun hl => pgl_full ((List.prefix_append pre [x]).trans hG) hl
    have HPS : Hid ((pgl f m pre).length < m → pgl f m (pre ++ [x]) = if f ≤ ((x % 1024 : Nat) : Int) then pgl f m pre ++ [x] else pgl f m pre) := fun hl => pgl_snoc f m pre x hl
    have HOO : Hid (Own w0 W _) := hO
    clear hO hO1 hO2 hG
    by_cases hfull : m ≤ (pgl f m pre).length
    · have hki : k ≤ ((pgl f m pre).length : Int) := by omega
      have hpf := HPF.out hfull
      clear HPF HPS hfull HO
      generalize (pgl f m pre).length = gl at *
      gi_wp2
      refine ⟨rfl, ?_⟩
      rw [hpf]
      exact HOO.out
    · have hki : ¬ k ≤ ((pgl f m pre).length : Int) := by omega
      have hps := HPS.out (by omega)
      have HSL : Hid (∀ w', Calls Tryd.prog 33 #[.int .u32 (x : Int)] w' fun e w'' => e = .returned (.int .i64 ((x % 1024 : Nat) : Int)) ∧ w'' = w') := fun w' => slot_any x w' hx32
      have HD : Hid (Own w0 W.drew _) := HO.out.drew
      obtain ⟨G, hGe⟩ : ∃ G, pgl f m pre = G := ⟨_, rfl⟩
      rw [hGe] at hps hki hgl HO HD q0
      have hgl2 : G.length + 1 ≤ 1024 := by omega
      clear HPF HPS hfull HOO hGe hgl
      generalize hgn : G.length = gl at *
      have HGN : Hid (G.length = gl) := hgn
      clear hgn
      by_cases hs : f ≤ ((x % 1024 : Nat) : Int)
      · rw [if_pos hs] at hps
        have HPS : Hid (pgl f m (pre ++ [x]) = G ++ [x]) := hps
        generalize hsl : x % 1024 = sl at *
        clear hps hsl hx32
        gi_wp2
        gi_region_with_o (refine ⟨trivial, ?_⟩; gi_at_call 33; refine (CallsIn.inRound l' (callsIn_wide.2 (HSL.out _))).mono ?_; rintro e w' ⟨rfl, rfl⟩)
        all_goals
          gi_wp2_with (gi_at_builtin; go_loud (change wpListIn _ _ _ _ _ _ _ (World.alloc W.drew (.cells #[.int .u32 (x : Int)] 44)); refine append1_in rfl _ _ 28 rfl 44 i0 (.int .u32 0) 1 4 Tryd.underlying28 hi hz0 hz1 hz2 rfl (by decide) _ gl _ rfl HD.out.two W.heap.size _ rfl rfl rfl (one_int _ _) (by unfold maxLen; omega) (by omega) ?_))
          intro g' cap' w2 hO2
          have q1 := hO2.two.cell 0
          have y1 := hO2.two.froz 0
          simp at q1
          have H2 : Hid (Own w0 _ _) := hO2.two.setC 0 (.slice (some ⟨g', 0, none⟩) (gl + 1) cap')
          clear hO2 HO HD q0
          gi_wp2
          have h3 : Own w0 _ (Coll (w.heap.size + 2) (pgl f m (pre ++ [x])) :: _) := Coll.shut (v := .slice (some ⟨g', 0, none⟩) (gl + 1) cap') (by rw [HPS.out, List.length_append, HGN.out]; simpa [irow] using H2.out)
          exact h3.bfiv
      · rw [if_neg hs] at hps
        have HPS : Hid (pgl f m (pre ++ [x]) = G) := hps
        generalize hsl : x % 1024 = sl at *
        clear hps hsl hx32
        gi_wp2
        gi_region_with_o (refine ⟨trivial, ?_⟩; gi_at_call 33; refine (CallsIn.inRound l' (callsIn_wide.2 (HSL.out _))).mono ?_; rintro e w' ⟨rfl, rfl⟩)
        all_goals
          gi_wp2
          have h3 : Own w0 _ (Coll (w.heap.size + 2) (pgl f m (pre ++ [x])) :: _) := Coll.shut (v := .slice ao gl cap) (by rw [HPS.out, HGN.out]; exact HD.out)
          exact h3.bfiv
  case done =>
    intro D xs W hS hO
    have hS' : xs = Xs := hS
    rw [hS'] at hO
    clear hS hS'
    have hO2 : Own w0 W (Coll (w.heap.size + 2) (pgl f m Xs) :: Objt D (.deferred (some [])) :: boxes (w.heap.size + 1 + 1 + 1) p a n (SG :: Cells w.heap.size #[.int .i64 f] 3 :: Cells (w.heap.size + 1) #[.int .i64 k] 3 :: l)) := hO.perm (List.perm_middle (l₁ := [Objt D (.deferred (some [])), Cells (w.heap.size + 1 + 1 + 1) #[.pointer p] 24, Cells (w.heap.size + 1 + 1 + 1 + 1) #[.int .u8 (a : Int)] 5, Cells (w.heap.size + 1 + 1 + 1 + 2) #[.int .u8 (n : Int)] 5, SG]) (l₂ := Cells w.heap.size #[.int .i64 f] 3 :: Cells (w.heap.size + 1) #[.int .i64 k] 3 :: l))
    obtain ⟨ao, cap, hO3⟩ := Coll.open hO2
    have q0 := hO3.cell 0
    simp at q0
    have hK := hO3.three.objt
    have H4 : Hid (Own w0 (W.putObj D (.deferred none)) _) := hO3.three.putO (.deferred none)
    clear hO hO2 hO3
    gi_wp2
    refine ⟨by simp, .inl ⟨_, _, rfl, run_takeDeferred hK, ?_⟩⟩
    exact ⟨_, results_tmp rfl _ _ _, ao, cap, rfl, H4.out.tail.tail.two.tail.two.tail.two.tail.three.tail.three.tail⟩
  case stop =>
    intro D pre W hS hO
    clear hS
    have hO2 : Own w0 W (Coll (w.heap.size + 2) (pgl f m Xs) :: Objt D (.deferred (some [])) :: boxes (w.heap.size + 1 + 1 + 1) p a n (SG :: Cells w.heap.size #[.int .i64 f] 3 :: Cells (w.heap.size + 1) #[.int .i64 k] 3 :: l)) := hO.perm (List.perm_middle (l₁ := [Objt D (.deferred (some [])), Cells (w.heap.size + 1 + 1 + 1) #[.pointer p] 24, Cells (w.heap.size + 1 + 1 + 1 + 1) #[.int .u8 (a : Int)] 5, Cells (w.heap.size + 1 + 1 + 1 + 2) #[.int .u8 (n : Int)] 5, SG]) (l₂ := Cells w.heap.size #[.int .i64 f] 3 :: Cells (w.heap.size + 1) #[.int .i64 k] 3 :: l))
    obtain ⟨ao, cap, hO3⟩ := Coll.open hO2
    have q0 := hO3.cell 0
    simp at q0
    have hK := hO3.three.objt
    have H4 : Hid (Own w0 (W.putObj D (.deferred none)) _) := hO3.three.putO (.deferred none)
    clear hO hO2 hO3
    gi_wp2
    refine ⟨by simp, .inl ⟨_, _, rfl, run_takeDeferred hK, ?_⟩⟩
    exact ⟨_, results_tmp rfl _ _ _, ao, cap, rfl, H4.out.tail.tail.two.tail.two.tail.two.tail.three.tail.three.tail⟩
end Go.Proofs.YtcpknpgeiafkoaaDoor
