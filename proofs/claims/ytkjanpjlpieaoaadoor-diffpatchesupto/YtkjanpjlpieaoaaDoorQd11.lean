/-
  The patch that goes one by one, entity by entity: put upon its own snapshot it leads where the delta leads.
-/
import Derived.Test.YtkjanpjlpieaoaaDoorQd10
namespace Go.Proofs.YtkjanpjlpieaoaaDoor
open Go.RowKit
set_option linter.unusedVariables false
set_option maxRecDepth 100000

def dropE (L : List En) (g : Nat) : List En := L.filter (fun e => decide (e.1 ≠ g))
def setE (L : List En) (g : Nat) (M : List Cp) : List En := L.map (fun x => if x.1 = g then (x.1, M) else x)
def insE (L : List En) (e : En) : List En := L.takeWhile (fun x => decide (x.1 < e.1)) ++ e :: L.dropWhile (fun x => decide (x.1 < e.1))
def goGone : List En → List Nat → Option (List En)
  | L, [] => some L
  | L, g :: gs => if (fstE L g).isSome then goGone (dropE L g) gs else none
def chgE (L : List En) (c : Chg) : Option (List En) := match fstE L c.id with
  | none => none
  | some e => (chgC e.2 c).map (setE L c.id)
def goChg : List En → List Chg → Option (List En)
  | L, [] => some L
  | L, c :: cs => match chgE L c with
    | none => none
    | some L' => goChg L' cs
def goCome (W : List En) : List En → List En → Option (List En)
  | L, [] => some L
  | L, e :: es => if (fstE W e.1).isSome then none else goCome W (insE L e) es
/-- one by one -/
def patL (W : List En) (d : Dl) : Option (List En) := (goGone W d.gone).bind fun L => (goChg L d.chg).bind fun L => goCome W L d.come
theorem fsU_some {L : List En} {i : Nat} {e : En} (h : fstE L i = some e) : e ∈ L ∧ e.1 = i := by
  unfold fstE at h
  exact ⟨List.mem_of_find?_eq_some h, by simpa using List.find?_some h⟩
theorem upe_one {L : List En} (h : Upe L) {x y : En} (hx : x ∈ L) (hy : y ∈ L) (e : x.1 = y.1) : x = y := by
  induction L with
  | nil => cases hx
  | cons z t ih =>
    obtain ⟨h1, h2⟩ := List.pairwise_cons.1 h
    rcases List.mem_cons.1 hx with rfl | hx
    · rcases List.mem_cons.1 hy with rfl | hy
      · rfl
      · have := h1 y hy; omega
    · rcases List.mem_cons.1 hy with e2 | hy
      · have := h1 x hx; subst e2; omega
      · exact ih h2 hx hy
theorem fsU_mem {L : List En} (h : Upe L) {x : En} (hx : x ∈ L) : fstE L x.1 = some x := by
  cases hf : fstE L x.1 with
  | none =>
    unfold fstE at hf
    rw [List.find?_eq_none] at hf
    exact absurd (by simp) (hf x hx)
  | some y =>
    obtain ⟨y1, y2⟩ := fsU_some hf
    rw [upe_one h y1 hx y2]
theorem fsU_is {L : List En} {i : Nat} (h : fstE L i = none) : ∀ x ∈ L, x.1 ≠ i := by
  intro x hx e
  unfold fstE at h
  rw [List.find?_eq_none] at h
  exact h x hx (by simp [e])
theorem goGone_to (gs : List Nat) : ∀ (L : List En), gs.Pairwise (fun a b => a < b) → Upe L → (∀ g ∈ gs, ∃ e ∈ L, e.1 = g) → ∃ m, goGone L gs = some m ∧ Upe m ∧ ∀ e, e ∈ m ↔ e ∈ L ∧ e.1 ∉ gs := by
  induction gs with
  | nil => exact fun L _ hl _ => ⟨L, rfl, hl, fun e => by simp⟩
  | cons g gs ih =>
    intro L hg hl hk
    obtain ⟨g1, g2⟩ := List.pairwise_cons.1 hg
    have ho : ∀ q, q ∈ dropE L g ↔ q ∈ L ∧ q.1 ≠ g := fun q => by unfold dropE; simp
    obtain ⟨m, m1, m2, m3⟩ := ih (dropE L g) g2 (hl.filter _) (fun x hx => by
      obtain ⟨e, e1, e2⟩ := hk x (List.mem_cons_of_mem _ hx)
      exact ⟨e, (ho e).2 ⟨e1, by have := g1 x hx; omega⟩, e2⟩)
    obtain ⟨e, e1, e2⟩ := hk g (by simp)
    refine ⟨m, by unfold goGone; rw [← e2, fsU_mem hl e1, if_pos (show (some e).isSome = true from rfl), e2]; exact m1, m2, fun q => ?_⟩
    rw [m3 q, ho q, List.mem_cons]
    simp only [not_or, and_assoc]
theorem setE_up {L : List En} (h : Upe L) (g : Nat) (M : List Cp) : Upe (setE L g M) := by
  unfold setE
  refine List.pairwise_map.2 (h.imp fun {a b} h => ?_)
  split <;> split <;> exact h
theorem setE_mem {L : List En} (h : Upe L) {e : En} (he : e ∈ L) (M : List Cp) (q : En) : q ∈ setE L e.1 M ↔ q = (e.1, M) ∨ (q ∈ L ∧ q.1 ≠ e.1) := by
  unfold setE
  rw [List.mem_map]
  constructor
  · rintro ⟨x, x1, rfl⟩
    by_cases hx : x.1 = e.1
    · rw [if_pos hx, hx]; exact .inl rfl
    · rw [if_neg hx]; exact .inr ⟨x1, hx⟩
  · rintro (rfl | ⟨a, b⟩)
    · exact ⟨e, he, if_pos rfl⟩
    · exact ⟨q, a, if_neg b⟩
theorem goChg_to (cs : List Chg) : ∀ (L : List En), cs.Pairwise (fun a b => a.id < b.id) → Upe L → (∀ c ∈ cs, ∃ e ∈ L, e.1 = c.id ∧ ∃ M, chgC e.2 c = some M) → ∃ m, goChg L cs = some m ∧ Upe m ∧ ∀ q, q ∈ m ↔ (q ∈ L ∧ ∀ c ∈ cs, q.1 ≠ c.id) ∨ ∃ c ∈ cs, ∃ e ∈ L, e.1 = c.id ∧ q.1 = e.1 ∧ chgC e.2 c = some q.2 := by
  induction cs with
  | nil => exact fun L _ hl _ => ⟨L, rfl, hl, fun q => by simp⟩
  | cons c cs ih =>
    intro L hc hl hk
    obtain ⟨c1, c2⟩ := List.pairwise_cons.1 hc
    obtain ⟨e, e1, e2, M, hM⟩ := hk c (by simp)
    have hs := fun q => setE_mem hl e1 M q
    have stay : ∀ x ∈ cs, ∀ y : En, y.1 = x.id → (y ∈ setE L e.1 M ↔ y ∈ L) := fun x hx y hy => by
      have := c1 x hx
      rw [hs y]
      constructor
      · rintro (rfl | ⟨a, _⟩)
        · simp only at hy; omega
        · exact a
      · exact fun a => .inr ⟨a, by omega⟩
    obtain ⟨m, m1, m2, m3⟩ := ih (setE L e.1 M) c2 (setE_up hl _ _) (fun x hx => by
      obtain ⟨y, y1, y2, y3⟩ := hk x (List.mem_cons_of_mem _ hx)
      exact ⟨y, (stay x hx y y2).2 y1, y2, y3⟩)
    have hE : chgE L c = some (setE L e.1 M) := by
      unfold chgE
      rw [← e2, fsU_mem hl e1]
      simp only [hM, Option.map_some]
    refine ⟨m, by unfold goChg; rw [hE]; exact m1, m2, fun q => ?_⟩
    rw [m3 q, hs q]
    constructor
    · rintro (⟨rfl | ⟨a, b⟩, d⟩ | ⟨x, hx, y, y1, y2, y3, y4⟩)
      · exact .inr ⟨c, by simp, e, e1, e2, rfl, hM⟩
      · refine .inl ⟨a, fun x hx => ?_⟩
        rcases List.mem_cons.1 hx with rfl | hx
        · omega
        · exact d x hx
      · exact .inr ⟨x, List.mem_cons_of_mem _ hx, y, (stay x hx y y2).1 y1, y2, y3, y4⟩
    · rintro (⟨a, b⟩ | ⟨x, hx, y, y1, y2, y3, y4⟩)
      · exact .inl ⟨.inr ⟨a, by have := b c (by simp); omega⟩, fun x hx => b x (List.mem_cons_of_mem _ hx)⟩
      · rcases List.mem_cons.1 hx with rfl | hx
        · have ey := upe_one hl y1 e1 (y2.trans e2.symm)
          subst ey
          rw [hM] at y4
          simp only [Option.some.injEq] at y4
          refine .inl ⟨.inl (Prod.ext y3 y4.symm), fun z hz => ?_⟩
          have := c1 z hz
          omega
        · exact .inr ⟨x, hx, y, (stay x hx y y2).2 y1, y2, y3, y4⟩
theorem insE_cons (a : En) (t : List En) (e : En) : insE (a :: t) e = if a.1 < e.1 then a :: insE t e else e :: a :: t := by
  unfold insE
  rw [List.takeWhile_cons, List.dropWhile_cons]
  by_cases h : a.1 < e.1 <;> simp [h]
theorem insE_mem (L : List En) (e q : En) : q ∈ insE L e ↔ q = e ∨ q ∈ L := by
  induction L with
  | nil => simp [insE]
  | cons a t ih =>
    rw [insE_cons]
    split
    · rw [List.mem_cons, ih, List.mem_cons]
      constructor
      · rintro (h | h | h)
        · exact .inr (.inl h)
        · exact .inl h
        · exact .inr (.inr h)
      · rintro (h | h | h)
        · exact .inr (.inl h)
        · exact .inl h
        · exact .inr (.inr h)
    · rw [List.mem_cons]
theorem insE_up {L : List En} (h : Upe L) (e : En) (hn : ∀ x ∈ L, x.1 ≠ e.1) : Upe (insE L e) := by
  induction L with
  | nil => simp [insE, Upe]
  | cons a t ih =>
    obtain ⟨h1, h2⟩ := List.pairwise_cons.1 h
    rw [insE_cons]
    split
    · rename_i hl
      refine List.pairwise_cons.2 ⟨fun x hx => ?_, ih h2 (fun x hx => hn x (List.mem_cons_of_mem _ hx))⟩
      rcases (insE_mem t e x).1 hx with rfl | hx
      · exact hl
      · exact h1 x hx
    · rename_i hl
      have := hn a (by simp)
      refine List.pairwise_cons.2 ⟨fun x hx => ?_, h⟩
      rcases List.mem_cons.1 hx with rfl | hx
      · omega
      · have := h1 x hx; omega
theorem goCome_to (W es : List En) : ∀ (L : List En), Upe es → Upe L → (∀ e ∈ es, fstE W e.1 = none) → (∀ e ∈ es, ∀ x ∈ L, x.1 ≠ e.1) → ∃ m, goCome W L es = some m ∧ Upe m ∧ ∀ q, q ∈ m ↔ q ∈ L ∨ q ∈ es := by
  induction es with
  | nil => exact fun L _ hl _ _ => ⟨L, rfl, hl, fun q => by simp⟩
  | cons e es ih =>
    intro L he hl hw hk
    obtain ⟨e1, e2⟩ := List.pairwise_cons.1 he
    obtain ⟨m, m1, m2, m3⟩ := ih (insE L e) e2 (insE_up hl e (hk e (by simp))) (fun x hx => hw x (List.mem_cons_of_mem _ hx)) (fun y hy x hx => by
      rcases (insE_mem L e x).1 hx with rfl | hx
      · have := e1 y hy; omega
      · exact hk y (List.mem_cons_of_mem _ hy) x hx)
    refine ⟨m, by unfold goCome; rw [hw e (by simp)]; exact m1, m2, fun q => ?_⟩
    rw [m3 q, insE_mem, List.mem_cons]
    constructor
    · rintro ((h | h) | h)
      · exact .inr (.inl h)
      · exact .inl h
      · exact .inr (.inr h)
    · rintro (h | h | h)
      · exact .inl (.inr h)
      · exact .inl (.inl h)
      · exact .inr h
/-- ONE BY ONE IT LEADS WHERE THE DELTA LEADS. -/
theorem patL_to {W N : List En} (hW : Snap W) (hN : Snap N) : patL W (btw W N) = some N := by
  rw [btw_dlt W N hW.up hN.up]
  have hg : ∀ g, g ∈ (dlt W N).gone ↔ ∃ e ∈ W, fstE N e.1 = none ∧ e.1 = g := fun g => by
    unfold dlt; simp [and_assoc]
  have hc : ∀ c, c ∈ (dlt W N).chg ↔ ∃ n ∈ N, ∃ w, fstE W n.1 = some w ∧ (chg1 w n).nil = false ∧ chg1 w n = c := fun c => by
    unfold dlt
    simp only [List.mem_filterMap]
    constructor
    · rintro ⟨n, n1, n2⟩
      unfold chgO at n2
      cases hf : fstE W n.1 with
      | none => rw [hf] at n2; simp at n2
      | some w =>
        rw [hf] at n2
        simp only [Option.bind_some] at n2
        split at n2
        · cases n2
        · rename_i h0
          simp only [Option.some.injEq] at n2
          exact ⟨n, n1, w, hf, by simpa using h0, n2⟩
    · rintro ⟨n, n1, w, w1, w2, w3⟩
      refine ⟨n, n1, ?_⟩
      unfold chgO
      rw [w1, Option.bind_some, if_neg (by rw [w2]; simp), w3]
  obtain ⟨m, m1, m2, m3⟩ := goGone_to (dlt W N).gone W (List.pairwise_map.2 (hW.up.filter _)) hW.up (fun g hg' => by
    obtain ⟨e, e1, _, e2⟩ := (hg g).1 hg'
    exact ⟨e, e1, e2⟩)
  have m4 : ∀ e, e ∈ m ↔ e ∈ W ∧ ∃ n ∈ N, n.1 = e.1 := fun e => by
    rw [m3 e]
    constructor
    · rintro ⟨a, b⟩
      refine ⟨a, ?_⟩
      cases hf : fstE N e.1 with
      | none => exact absurd ((hg e.1).2 ⟨e, a, hf, rfl⟩) b
      | some n => exact ⟨n, fsU_some hf⟩
    · rintro ⟨a, n, n1, n2⟩
      refine ⟨a, fun hb => ?_⟩
      obtain ⟨x, x1, x2, x3⟩ := (hg e.1).1 hb
      rw [x3, ← n2, fsU_mem hN.up n1] at x2
      cases x2
  have hcup : (dlt W N).chg.Pairwise (fun a b => a.id < b.id) := by
    unfold dlt
    refine List.Pairwise.filterMap _ (fun a b hab x hx y hy => ?_) hN.up
    have key : ∀ {n : En} {c : Chg}, c ∈ chgO W n → c.id = n.1 := fun {n c} h => by
      unfold chgO at h
      cases hf : fstE W n.1 with
      | none => rw [hf] at h; simp at h
      | some w =>
        rw [hf] at h
        simp only [Option.bind_some] at h
        split at h
        · cases h
        · simp only [Option.mem_def, Option.some.injEq] at h
          rw [← h]; rfl
    rw [key hx, key hy]; exact hab
  have hto : ∀ {w n : En}, w ∈ W → n ∈ N → chgC w.2 (chg1 w n) = some n.2 := fun {w n} h1 h2 => chgC_to w.1 n.1 (hW.good w h1) (hN.good n h2)
  obtain ⟨o, o1, o2, o3⟩ := goChg_to (dlt W N).chg m hcup m2 (fun c hc' => by
    obtain ⟨n, n1, w, w1, w2, rfl⟩ := (hc c).1 hc'
    obtain ⟨w3, w4⟩ := fsU_some w1
    exact ⟨w, (m4 w).2 ⟨w3, n, n1, w4.symm⟩, w4, n.2, hto w3 n1⟩)
  have o4 : ∀ q, q ∈ o ↔ q ∈ N ∧ ∃ w ∈ W, w.1 = q.1 := fun q => by
    rw [o3 q]
    constructor
    · rintro (⟨a, b⟩ | ⟨c, c1, e, e1, e2, e3, e4⟩)
      · obtain ⟨a1, n, n1, n2⟩ := (m4 q).1 a
        have hf : fstE W n.1 = some q := by rw [n2]; exact fsU_mem hW.up a1
        have : (chg1 q n).nil = true := by
          apply Decidable.byContradiction
          intro hn
          exact b _ ((hc _).2 ⟨n, n1, q, hf, by simpa using hn, rfl⟩) n2.symm
        have e : q = n := Prod.ext n2.symm (nil_same (hW.good q a1) (hN.good n n1) this)
        rw [e]
        exact ⟨n1, q, a1, by rw [e]⟩
      · obtain ⟨n, n1, w, w1, w2, rfl⟩ := (hc c).1 c1
        obtain ⟨w3, w4⟩ := fsU_some w1
        have e5 := upe_one hW.up ((m4 e).1 e1).1 w3 (e2.trans (show (chg1 w n).id = w.1 from w4.symm))
        subst e5
        rw [hto w3 n1] at e4
        simp only [Option.some.injEq] at e4
        have eq : q = n := Prod.ext (e3.trans w4) e4.symm
        rw [eq]
        exact ⟨n1, e, w3, w4⟩
    · rintro ⟨a, w, w1, w2⟩
      have hf : fstE W q.1 = some w := by rw [← w2]; exact fsU_mem hW.up w1
      have hm : w ∈ m := (m4 w).2 ⟨w1, q, a, w2.symm⟩
      by_cases hn : (chg1 w q).nil = true
      · have e : w = q := Prod.ext w2 (nil_same (hW.good w w1) (hN.good q a) hn)
        subst e
        refine .inl ⟨hm, fun c hc' e => ?_⟩
        obtain ⟨n, n1, x, x1, x2, rfl⟩ := (hc c).1 hc'
        have en : n = w := upe_one hN.up n1 a e.symm
        subst en
        rw [hf] at x1
        simp only [Option.some.injEq] at x1
        subst x1
        rw [hn] at x2
        cases x2
      · exact .inr ⟨chg1 w q, (hc _).2 ⟨q, a, w, hf, by simpa using hn, rfl⟩, w, hm, w2, w2.symm, hto w1 a⟩
  have hcome : ∀ e, e ∈ (dlt W N).come ↔ e ∈ N ∧ fstE W e.1 = none := fun e => by
    unfold dlt; simp
  obtain ⟨r, r1, r2, r3⟩ := goCome_to W (dlt W N).come o (hN.up.filter _) o2 (fun e he => ((hcome e).1 he).2) (fun e he x hx h => by
    obtain ⟨_, w, w1, w2⟩ := (o4 x).1 hx
    exact fsU_is ((hcome e).1 he).2 w w1 (w2.trans h))
  have er : r = N := by
    refine up_mem (fun x => x.1) r2 hN.up (fun q => ?_)
    rw [r3 q, o4 q, hcome q]
    constructor
    · rintro (⟨a, _⟩ | ⟨a, _⟩) <;> exact a
    · intro a
      cases hf : fstE W q.1 with
      | none => exact .inr ⟨a, rfl⟩
      | some w => exact .inl ⟨a, w, fsU_some hf⟩
  unfold patL
  rw [m1, Option.bind_some, o1, Option.bind_some, r1, er]
end Go.Proofs.YtkjanpjlpieaoaaDoor

