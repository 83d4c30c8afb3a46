/-
  Package table: a table's columns grow and shrink; Set.
-/
import Derived.Test.YtcpknpgeiafkoaaDoorUe
namespace Go.Proofs.YtcpknpgeiafkoaaDoor
open Go.RowKit Go.Maps
set_option linter.unusedVariables false
set_option maxRecDepth 100000

theorem cols_congr {f g : Nat → Thing} (h : ∀ k, k < 6 → f k = g k) : cols f = cols g := by
  unfold cols
  rw [h 0 (by decide), h 1 (by decide), h 2 (by decide), h 3 (by decide), h 4 (by decide), h 5 (by decide)]
theorem colT_upd {v : Nat → Value} {g : Nat → List Fs} {k : Nat} {u : Value} {y : List Fs} (j : Nat) (h : j ≠ k) : colT v g j = colT (upd v k u) (upd g k y) j := by
  unfold colT; rw [upd_other _ _ _ h, upd_other _ _ _ h]
theorem colT_at (v : Nat → Value) (g : Nat → List Fs) (k : Nat) (u : Value) (y : List Fs) : colT (upd v k u) (upd g k y) k = Row 56 3 u y.length (cat fc y) := by
  unfold colT; rw [upd_same, upd_same]
theorem TabG.is {w0 w : World} {l : List Thing} {b m : Nat} {I J : List Nat} {g g' : Nat → List Fs} {p p' : Nat → Option Nat} {c c' : Nat} (h : Own w0 w (TabG b m I g p c :: l)) (hI : I = J) (hg : ∀ k, k < 6 → g k = g' k) (hp : ∀ x, x < 4294967296 → p x = p' x) (hc : c ≤ c') : Own w0 w (TabG b m J g' p' c' :: l) := by
  subst hI
  obtain ⟨vi, v, mb, h⟩ := TabG.open _ _ _ _ _ _ _ _ _ h
  have h2 := (h.three.mapIs (q := p') c' hc hp).back3
  have e : cols (colT v g) = cols (colT v g') := cols_congr (fun k hk => by unfold colT; rw [hg k hk])
  rw [e] at h2
  exact TabG.shut _ _ _ _ _ _ _ _ _ vi v mb h2

section
variable (w0 w : World) (l : List Thing) (b m : Nat) (I : List Nat) (g : Nat → List Fs) (p : Nat → Option Nat) (c : Nat)
theorem tpush (h : Own w0 w (TabG b m I g p c :: l)) (k : Nat) (hk : k < 6) (x : Fs) (hn : (g k).length ≤ 1000000) :
    Calls Tryd.prog 86 #[.pointer (some ⟨b, 2 + k, none⟩), .agg #[.int .i32 x.1, .int .i32 x.2.1, .int .i32 x.2.2]] w fun e w' => e = .returned (.tuple #[]) ∧ Own w0 w' (TabG b m I (upd g k (g k ++ [x])) p c :: l) := by
  obtain ⟨vi, v, mb, h⟩ := TabG.open _ _ _ _ _ _ _ _ _ h
  have h1 := Own.col k hk h
  unfold colT at h1
  refine (pushF w0 w _ b _ _ (2 + k) (v k) (g k).length _ x h1 (tcells_col m vi v mb k hk) hn).mono ?_
  rintro e w' ⟨rfl, gg, cap, hO⟩
  refine ⟨rfl, TabG.shut _ _ _ _ _ _ _ _ _ vi (upd v k (.slice (some ⟨gg, 0, none⟩) ((g k).length + 1) cap)) mb ?_⟩
  rw [tcells_set m vi v mb k hk] at hO
  refine Own.uncol (f := colT v g) k hk ?_ (fun j hj => colT_upd j hj)
  rw [colT_at, cat_append, List.length_append]
  exact hO
theorem tdrop (h : Own w0 w (TabG b m I g p c :: l)) (k : Nat) (hk : k < 6) (r n : Nat) (hl : (g k).length = n + 1) (hr : r < n + 1) (hn : n ≤ 1000000) :
    Calls Tryd.prog 88 #[.pointer (some ⟨b, 2 + k, none⟩), .int .i64 (r : Int)] w fun e w' => e = .returned (.tuple #[]) ∧ Own w0 w' (TabG b m I (upd g k (outr (g k) r)) p c :: l) := by
  obtain ⟨vi, v, mb, h⟩ := TabG.open _ _ _ _ _ _ _ _ _ h
  have h1 := Own.col k hk h
  unfold colT at h1
  refine (dropF w0 w _ b _ _ (2 + k) (v k) n (g k) r h1 hl (tcells_col m vi v mb k hk) hr hn).mono ?_
  rintro e w' ⟨rfl, gg, cap, hO⟩
  refine ⟨rfl, TabG.shut _ _ _ _ _ _ _ _ _ vi (upd v k (.slice (some ⟨gg, 0, none⟩) n cap)) mb ?_⟩
  rw [tcells_set m vi v mb k hk] at hO
  refine Own.uncol (f := colT v g) k hk ?_ (fun j hj => colT_upd j hj)
  rw [colT_at, length_outr _ _ (by omega), hl]
  exact hO
theorem tpushI (h : Own w0 w (TabG b m I g p c :: l)) (id : Nat) (hn : I.length ≤ 1000000) :
    Calls Tryd.prog 85 #[.pointer (some ⟨b, 1, none⟩), .int .u32 (id : Int)] w fun e w' => e = .returned (.tuple #[]) ∧ Own w0 w' (TabG b m (I ++ [id]) g p c :: l) := by
  obtain ⟨vi, v, mb, h⟩ := TabG.open _ _ _ _ _ _ _ _ _ h
  refine (pushI w0 w _ b _ _ 1 vi I.length _ id h rfl hn).mono ?_
  rintro e w' ⟨rfl, gg, cap, hO⟩
  refine ⟨rfl, TabG.shut _ _ _ _ _ _ _ _ _ (.slice (some ⟨gg, 0, none⟩) (I.length + 1) cap) v mb ?_⟩
  rw [irow_append, List.length_append]
  exact hO
theorem tdropI (h : Own w0 w (TabG b m I g p c :: l)) (r n : Nat) (hl : I.length = n + 1) (hr : r < n + 1) (hn : n ≤ 1000000) :
    Calls Tryd.prog 87 #[.pointer (some ⟨b, 1, none⟩), .int .i64 (r : Int)] w fun e w' => e = .returned (.tuple #[]) ∧ Own w0 w' (TabG b m (outr I r) g p c :: l) := by
  obtain ⟨vi, v, mb, h⟩ := TabG.open _ _ _ _ _ _ _ _ _ h
  rw [hl] at h
  refine (dropI w0 w _ b _ _ 1 vi n I r h hl rfl hr hn).mono ?_
  rintro e w' ⟨rfl, gg, cap, hO⟩
  refine ⟨rfl, TabG.shut _ _ _ _ _ _ _ _ _ (.slice (some ⟨gg, 0, none⟩) n cap) v mb ?_⟩
  rw [length_outr _ _ (by omega), hl]
  exact hO
end

theorem lst_mk {p : Int} {C : List Cp} (h1 : C.Pairwise (fun x y => x.k < y.k)) (h2 : ∀ q ∈ C, p < (q.k : Int) ∧ q.chk = 0) : lst p C = 0 := by
  induction C generalizing p with
  | nil => rfl
  | cons q t ih =>
    obtain ⟨a1, a2⟩ := List.pairwise_cons.1 h1
    have hq := h2 q List.mem_cons_self
    rw [lst, if_neg (by simp [hq.2]), if_neg (by omega)]
    exact ih a2 (fun x hx => ⟨by have := a1 x hx; omega, (h2 x (List.mem_cons_of_mem _ hx)).2⟩)
theorem lst_iff (C : List Cp) : lst (-1) C = 0 ↔ C.Pairwise (fun x y => x.k < y.k) ∧ ∀ q ∈ C, q.chk = 0 :=
  ⟨fun h => ⟨(lst_ok h).1, fun q hq => ((lst_ok h).2 q hq).2⟩, fun ⟨h1, h2⟩ => lst_mk h1 (fun q hq => ⟨by omega, h2 q hq⟩)⟩
theorem hasK_map (C : List Cp) (k : Nat) : hasK C k = (C.map Cp.k).any (fun x => decide (x = k)) := by
  unfold hasK; rw [List.any_map]; rfl
theorem msk_map {C D : List Cp} (h : C.map Cp.k = D.map Cp.k) : msk C = msk D := by
  rw [msk_val, msk_val]
  simp only [hasK_map, h]
/-- with another one of its kind -/
def setc (C : List Cp) (q : Cp) : List Cp := C.map (fun x => if x.k = q.k then q else x)
theorem setc_kinds (C : List Cp) (q : Cp) : (setc C q).map Cp.k = C.map Cp.k := by
  unfold setc; rw [List.map_map]
  apply List.map_congr_left
  intro x _
  show (if x.k = q.k then q else x).k = x.k
  split
  · rename_i h; exact h.symm
  · rfl
theorem setc_ok {C : List Cp} {q : Cp} (h : lst (-1) C = 0) (hq : q.chk = 0) : lst (-1) (setc C q) = 0 := by
  rw [lst_iff] at h ⊢
  constructor
  · have := List.pairwise_map.2 h.1
    rw [← setc_kinds C q] at this
    exact List.pairwise_map.1 this
  · intro x hx
    unfold setc at hx
    obtain ⟨y, hy, rfl⟩ := List.mem_map.1 hx
    split
    · exact hq
    · exact h.2 y hy
theorem setc_msk (C : List Cp) (q : Cp) : msk (setc C q) = msk C := msk_map (setc_kinds C q)
theorem setc_fv {C : List Cp} {q : Cp} (h : lst (-1) C = 0) (hq : q.chk = 0) (k : Nat) (hk : hasK C k = true) : fv (setc C q) k = if k = q.k then q.f else fv C k := by
  obtain ⟨x, hx, rfl⟩ := (hasK_iff C k).1 hk
  have h2 := setc_ok h hq
  have hm : (if x.k = q.k then q else x) ∈ setc C q := List.mem_map.2 ⟨x, hx, rfl⟩
  have := fv_of h2 hm
  by_cases c : x.k = q.k
  · rw [if_pos c] at this ⊢
    rw [c]; exact this
  · rw [if_neg c] at this ⊢
    rw [this, fv_of h hx]
theorem hasK_bt {C : List Cp} {m k : Nat} (hm : msk C = m) (hm6 : m < 64) (hb : bt m k = true) : hasK C k = true := by
  have hk := bt_lt hm6 hb
  rw [← bt_msk C k hk, hm]; exact hb
theorem TOk.set {m : Nat} {L : List Ent} (h : TOk m L) {r : Nat} {e : Ent} (he : L[r]? = some e) (q : Cp) (hq : q.chk = 0) : TOk m (L.set r (e.1, setc e.2 q)) := by
  have hm := List.mem_of_getElem? he
  have hi := (List.getElem?_eq_some_iff.1 he).1
  refine ⟨h.m64, ?_, ?_, ?_⟩
  · intro x hx
    rcases List.mem_or_eq_of_mem_set hx with q | q
    · exact h.id x q
    · subst q; exact h.id e hm
  · intro i j a d ha hd hx
    rw [List.getElem?_set] at ha hd
    split at ha <;> split at hd
    · omega
    · rename_i c1 c2
      subst c1
      cases ha
      exact h.ap _ _ e d he hd hx
    · rename_i c1 c2
      subst c2
      cases hd
      exact h.ap _ _ a e ha he hx
    · exact h.ap _ _ a d ha hd hx
  · intro x hx
    rcases List.mem_or_eq_of_mem_set hx with q' | q'
    · exact h.ok x q'
    · subst q'
      have := h.ok e hm
      exact ⟨setc_ok this.1 hq, by rw [setc_msk]; exact this.2⟩
theorem set_self {α : Type} (L : List α) (r : Nat) (x : α) (h : L[r]? = some x) : L.set r x = L := by
  apply List.ext_getElem?
  intro i
  rw [List.getElem?_set]
  split
  · rename_i c; subst c; rw [if_pos (List.getElem?_eq_some_iff.1 h).1, h]
  · rfl
theorem clm_set {m : Nat} {L : List Ent} (h : TOk m L) {r : Nat} {e : Ent} (he : L[r]? = some e) (q : Cp) (hq : q.chk = 0) (hb : bt m q.k = true) (k : Nat) : clm m (L.set r (e.1, setc e.2 q)) k = upd (clm m L) q.k ((clm m L q.k).set r q.f) k := by
  have ho := h.ok e (List.mem_of_getElem? he)
  by_cases c : k = q.k
  · subst c
    rw [upd_same]
    unfold clm
    rw [if_pos hb, if_pos hb, List.map_set]
    show (L.map _).set r (fv (setc e.2 q) q.k) = _
    rw [setc_fv ho.1 hq _ (hasK_bt ho.2 h.m64 hb), if_pos rfl]
  · rw [upd_other _ _ _ c]
    unfold clm
    split
    · rename_i hb2
      rw [List.map_set]
      show (L.map _).set r (fv (setc e.2 q) k) = _
      rw [setc_fv ho.1 hq _ (hasK_bt ho.2 h.m64 hb2), if_neg c]
      exact set_self _ _ _ (by rw [List.getElem?_map, he]; rfl)
    · rfl
theorem plc_set {L : List Ent} {r : Nat} {e : Ent} (he : L[r]? = some e) (C : List Cp) (x : Nat) : plc (L.set r (e.1, C)) x = plc L x := by
  have e1 : ∀ M : List Ent, plc M x = (M.map (·.1)).findIdx? (fun y => decide (y = x)) := by
    intro M
    unfold plc
    rw [List.findIdx?_map]; rfl
  rw [e1, e1, List.map_set]
  congr 1
  exact set_self _ _ _ (by rw [List.getElem?_map, he]; rfl)
theorem ids_set {L : List Ent} {r : Nat} {e : Ent} (he : L[r]? = some e) (C : List Cp) : ids (L.set r (e.1, C)) = ids L := by
  unfold ids; rw [List.map_set]
  exact set_self _ _ _ (by rw [List.getElem?_map, he]; rfl)

/-- what a table's Set does -/
def tset (m : Nat) (L : List Ent) (id : Nat) (q : Cp) : Nat × List Ent := if q.chk ≠ 0 then (q.chk, L) else match plc L id with
  | none => (7, L)
  | some r => if bt m q.k then (0, L.set r (id, setc ((L[r]?).map (·.2) |>.getD []) q)) else (10, L)

end Go.Proofs.YtcpknpgeiafkoaaDoor
