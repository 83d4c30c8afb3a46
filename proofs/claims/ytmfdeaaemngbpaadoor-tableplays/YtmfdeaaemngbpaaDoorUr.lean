/-
  Tables that may be nil, the program's and the document's, side by side.
-/
import Derived.Test.YtmfdeaaemngbpaaDoorUq
namespace Go.Proofs.YtmfdeaaemngbpaaDoor
open Go.RowKit Go.Maps
set_option linter.unusedVariables false
set_option maxRecDepth 100000

def tp (p : Option Nat) : Option Addr := p.map fun b => ⟨b, 0, none⟩
def TbO (p : Option Nat) (m : Nat) (L : List Ent) (c : Nat) : Thing := match p with
  | some b => Table b m L c
  | none => Emp
def RTbO (q : Option Nat) (m : Nat) (L : List Ent) : Thing := match q with
  | some b => RTab b m L
  | none => Emp
theorem Own.empT {w0 w : World} {l : List Thing} (h : Own w0 w l) : Own w0 w (Emp :: l) := h.new Emp (fun _ => False) (fun _ h => h) (Fr.refl _ _) (fun _ h => h.elim)
def aE (z : Bool) (m : Nat) (L : List Ent) (id : Nat) (C : List Cp) : Nat := if z then 10 else (tadd m L id C).1
def aL (z : Bool) (m : Nat) (L : List Ent) (id : Nat) (C : List Cp) : List Ent := if z then L else (tadd m L id C).2
def trem (L : List Ent) (id : Nat) : Nat × List Cp × List Ent := match plc L id with
  | none => (7, [], L)
  | some r => (0, ((L[r]?).map (·.2)).getD [], outr L r)
def mE (z : Bool) (L : List Ent) (id : Nat) : Nat := if z then 10 else (trem L id).1
def mC (z : Bool) (L : List Ent) (id : Nat) : List Cp := if z then [] else (trem L id).2.1
def mL (z : Bool) (L : List Ent) (id : Nat) : List Ent := if z then L else (trem L id).2.2
def sE (z : Bool) (m : Nat) (L : List Ent) (id : Nat) (q : Cp) : Nat := if z then 10 else (tset m L id q).1
def sL (z : Bool) (m : Nat) (L : List Ent) (id : Nat) (q : Cp) : List Ent := if z then L else (tset m L id q).2
def gE (z : Bool) (m : Nat) (L : List Ent) (id k : Nat) : Nat := if z then 10 else (tget m L id k).1
def gC (z : Bool) (m : Nat) (L : List Ent) (id k : Nat) : Cp := if z then ⟨0, 0, 0, 0⟩ else (tget m L id k).2
theorem tadd_tok {m : Nat} {L : List Ent} (h : TOk m L) (id : Nat) (hid : id < 4294967296) (C : List Cp) : TOk m (tadd m L id C).2 ∧ (tadd m L id C).2.length ≤ L.length + 1 := by
  unfold tadd
  split
  · exact ⟨h, Nat.le_succ _⟩
  · rename_i h1
    split
    · exact ⟨h, Nat.le_succ _⟩
    · rename_i h2
      split
      · exact ⟨h, Nat.le_succ _⟩
      · rename_i h3
        exact ⟨h.snoc (id, C) hid (by simpa using h3) (by simpa using h1) (by simpa using h2), by simp⟩
theorem trem_tok {m : Nat} {L : List Ent} (h : TOk m L) (id : Nat) : TOk m (trem L id).2.2 ∧ (trem L id).2.2.length ≤ L.length + 1 := by
  unfold trem
  cases hp : plc L id with
  | none => exact ⟨h, Nat.le_succ _⟩
  | some r =>
    have := plc_lt hp
    exact ⟨h.outr r this, by show (outr L r).length ≤ _; rw [length_outr L r this]; omega⟩
theorem tset_tok {m : Nat} {L : List Ent} (h : TOk m L) (id : Nat) (q : Cp) : TOk m (tset m L id q).2 ∧ (tset m L id q).2.length ≤ L.length + 1 := by
  unfold tset
  split
  · exact ⟨h, Nat.le_succ _⟩
  · rename_i h1
    cases hp : plc L id with
    | none => exact ⟨h, Nat.le_succ _⟩
    | some r =>
      simp only
      split
      · obtain ⟨e, he, hei⟩ := (plc_some h.ap id r).1 hp
        have := h.set he q (by simpa using h1)
        rw [hei] at this
        rw [he]
        exact ⟨this, by simp⟩
      · exact ⟨h, Nat.le_succ _⟩
section
variable (w0 w : World) (l : List Thing) (p q : Option Nat) (m : Nat) (L : List Ent) (c : Nat) (z : Bool)
theorem add_o (ht : Tab w0) (h : Own w0 w (TbO p m L c :: l)) (hT : TOk m L) (hz : p.isNone = z) (id : Nat) (hid : id < 4294967296) (ao : Option Addr) (len cap : Nat) (C : List Cp) (hCl : C.length = len) (hCs : ∀ w', Own w0 w' l → Cs w' ao C) (hCk : ∀ q ∈ C, q.k < 256) (hlen : len ≤ 1000000) (hL : L.length ≤ 1000000) (hc : c ≤ 1000000) :
    Calls Tryd.prog 8 #[.pointer (tp p), .int .u32 (id : Int), .slice ao len cap] w fun e w' => e = .returned (.int .i64 (aE z m L id C : Int)) ∧ Own w0 w' (TbO p m (aL z m L id C) (c + 1) :: l) := by
  subst hz
  cases p with
  | none =>
    refine (taddN w id ao len cap).mono ?_
    rintro e w' ⟨rfl, rfl⟩
    exact ⟨rfl, h⟩
  | some b => exact taddC w0 w l b m L c ht h hT id hid ao len cap C hCl hCs hCk hlen hL hc
theorem radd_o (h : Own w0 w (RTbO q m L :: l)) (hT : TOk m L) (hz : q.isNone = z) (id : Nat) (hid : id < 4294967296) (ao : Option Addr) (len cap : Nat) (C : List Cp) (hCl : C.length = len) (hCs : ∀ w', Own w0 w' l → Cs w' ao C) (hCk : ∀ q ∈ C, q.k < 256) (hlen : len ≤ 1000000) (hL : L.length ≤ 1000000) :
    Calls Tryd.prog 9 #[.pointer (tp q), .int .u32 (id : Int), .slice ao len cap] w fun e w' => e = .returned (.int .i64 (aE z m L id C : Int)) ∧ Own w0 w' (RTbO q m (aL z m L id C) :: l) := by
  subst hz
  cases q with
  | none =>
    refine (rtaddN w id ao len cap).mono ?_
    rintro e w' ⟨rfl, rfl⟩
    exact ⟨rfl, h⟩
  | some b => exact rtaddC w0 w l b m L h hT id hid ao len cap C hCl hCs hCk hlen hL
theorem rem_o (h : Own w0 w (TbO p m L c :: l)) (hT : TOk m L) (hz : p.isNone = z) (id : Nat) (hid : id < 4294967296) (hL : L.length ≤ 1000000) (hc : c ≤ 1000000) :
    Calls Tryd.prog 10 #[.pointer (tp p), .int .u32 (id : Int)] w fun e w' => ∃ ao cap, e = .returned (.tuple #[.slice ao (mC z L id).length cap, .int .i64 (mE z L id : Int)]) ∧ Own w0 w' (Row 47 4 (.slice ao (mC z L id).length cap) (mC z L id).length (ccat (mC z L id)) :: TbO p m (mL z L id) (c + 1) :: l) := by
  subst hz
  cases p with
  | none =>
    refine (tremN w id).mono ?_
    rintro e w' ⟨rfl, rfl⟩
    exact ⟨none, 0, rfl, h.nilRow _ _⟩
  | some b =>
    unfold mE mC mL
    simp only [Option.isNone_some, Bool.false_eq_true, if_false]
    cases hp : plc L id with
    | none =>
      have e : trem L id = (7, [], L) := by unfold trem; rw [hp]
      rw [e]
      refine (tremNo w0 w l b m L c h id hid hp).mono ?_
      rintro e w' ⟨rfl, rfl⟩
      have h2 : Own w0 w' (Table b m L (c + 1) :: l) := TabG.is h rfl (fun _ _ => rfl) (fun _ _ => rfl) (Nat.le_succ _)
      exact ⟨none, 0, rfl, h2.nilRow _ _⟩
    | some r =>
      obtain ⟨e, he, _⟩ := (plc_some hT.ap id r).1 hp
      have e1 : trem L id = (0, e.2, outr L r) := by simp [trem, hp, he]
      rw [e1]
      exact tremC w0 w l b m L c h hT id hid r e hp he hL hc
theorem rrem_o (h : Own w0 w (RTbO q m L :: l)) (hT : TOk m L) (hz : q.isNone = z) (id : Nat) (hL : L.length ≤ 1000000) :
    Calls Tryd.prog 11 #[.pointer (tp q), .int .u32 (id : Int)] w fun e w' => ∃ ao cap, e = .returned (.tuple #[.slice ao (mC z L id).length cap, .int .i64 (mE z L id : Int)]) ∧ Own w0 w' (Row 47 4 (.slice ao (mC z L id).length cap) (mC z L id).length (ccat (mC z L id)) :: RTbO q m (mL z L id) :: l) := by
  subst hz
  cases q with
  | none =>
    refine (rtremN w id).mono ?_
    rintro e w' ⟨rfl, rfl⟩
    exact ⟨none, 0, rfl, h.nilRow _ _⟩
  | some b =>
    unfold mE mC mL
    simp only [Option.isNone_some, Bool.false_eq_true, if_false]
    cases hp : plc L id with
    | none =>
      have e : trem L id = (7, [], L) := by unfold trem; rw [hp]
      rw [e]
      refine (rtremNo w0 w l b m L h hT.ap hL id hp).mono ?_
      rintro e w' ⟨rfl, h'⟩
      exact ⟨none, 0, rfl, h'.nilRow _ _⟩
    | some r =>
      obtain ⟨e, he, _⟩ := (plc_some hT.ap id r).1 hp
      have e1 : trem L id = (0, e.2, outr L r) := by simp [trem, hp, he]
      rw [e1]
      exact rtremC w0 w l b m L h hT hL id r e hp he
theorem set_o (ht : Tab w0) (h : Own w0 w (TbO p m L c :: l)) (hT : TOk m L) (hz : p.isNone = z) (id : Nat) (hid : id < 4294967296) (x : Cp) (hk : x.k < 256) (hL : L.length ≤ 1000000) :
    Calls Tryd.prog 13 #[.pointer (tp p), .int .u32 (id : Int), x.ag] w fun e w' => e = .returned (.int .i64 (sE z m L id x : Int)) ∧ Own w0 w' (TbO p m (sL z m L id x) c :: l) := by
  subst hz
  cases p with
  | none =>
    refine (tsetN w id x).mono ?_
    rintro e w' ⟨rfl, hf⟩
    exact ⟨rfl, h.quiet hf⟩
  | some b => exact tsetC w0 w l b m L c ht h hT id hid x hk hL
theorem rset_o (h : Own w0 w (RTbO q m L :: l)) (hT : TOk m L) (hz : q.isNone = z) (id : Nat) (hid : id < 4294967296) (x : Cp) (hk : x.k < 256) (hL : L.length ≤ 1000000) :
    Calls Tryd.prog 15 #[.pointer (tp q), .int .u32 (id : Int), x.ag] w fun e w' => e = .returned (.int .i64 (sE z m L id x : Int)) ∧ Own w0 w' (RTbO q m (sL z m L id x) :: l) := by
  subst hz
  cases q with
  | none =>
    refine (rtsetN w id x).mono ?_
    rintro e w' ⟨rfl, hf⟩
    exact ⟨rfl, h.quiet hf⟩
  | some b => exact rtsetC w0 w l b m L h hT id hid x hk hL
theorem get_o (h : Own w0 w (TbO p m L c :: l)) (hT : TOk m L) (hz : p.isNone = z) (id : Nat) (hid : id < 4294967296) (k : Nat) (hk : k < 256) :
    Calls Tryd.prog 16 #[.pointer (tp p), .int .u32 (id : Int), .int .u8 (k : Int)] w fun e w' => e = .returned (.tuple #[(gC z m L id k).ag, .int .i64 (gE z m L id k : Int)]) ∧ Own w0 w' (TbO p m L c :: l) := by
  subst hz
  cases p with
  | none =>
    refine (tgetN w id k).mono ?_
    rintro e w' ⟨rfl, hf⟩
    exact ⟨rfl, h.quiet hf⟩
  | some b => exact tgetC w0 w l b m L c h hT id hid k hk
theorem rget_o (h : Own w0 w (RTbO q m L :: l)) (hT : TOk m L) (hz : q.isNone = z) (id : Nat) (k : Nat) (hk : k < 256) (hL : L.length ≤ 1000000) :
    Calls Tryd.prog 17 #[.pointer (tp q), .int .u32 (id : Int), .int .u8 (k : Int)] w fun e w' => e = .returned (.tuple #[(gC z m L id k).ag, .int .i64 (gE z m L id k : Int)]) ∧ Own w0 w' (RTbO q m L :: l) := by
  subst hz
  cases q with
  | none =>
    refine (rtgetN w id k).mono ?_
    rintro e w' ⟨rfl, hf⟩
    exact ⟨rfl, h.quiet hf⟩
  | some b => exact rtgetC w0 w l b m L h hT hL id k hk
theorem alike_o (h : Own w0 w (TbO p m L c :: RTbO q m L :: l)) (hT : TOk m L) (hp : p.isNone = z) (hq : q.isNone = z) (hL : L.length ≤ 1000) :
    Calls Tryd.prog 18 #[.pointer (tp p), .pointer (tp q)] w fun e w' => e = .returned (.bool true) ∧ Own w0 w' (TbO p m L c :: RTbO q m L :: l) := by
  cases p with
  | none =>
    cases q with
    | none =>
      refine (alikeN w).mono ?_
      rintro e w' ⟨rfl, hf⟩
      exact ⟨rfl, h.quiet hf⟩
    | some b => simp at hp hq; rw [hp] at hq; cases hq
  | some b =>
    cases q with
    | none => simp at hp hq; rw [hp] at hq; cases hq
    | some b2 => exact alikeC w0 w l b b2 m L c h hT hL
theorem tnew_o (h : Own w0 w l) : ∃ z m', TOk m' [] ∧ (Calls Tryd.prog 5 #[.int .u8 (m : Int)] w fun e w' => ∃ p, e = .returned (.tuple #[.pointer (tp p), .int .i64 (if z then 1 else 0)]) ∧ p.isNone = z ∧ Own w0 w' (TbO p m' [] 0 :: l)) ∧
    ∀ w' l', Own w0 w' l' → Calls Tryd.prog 6 #[.int .u8 (m : Int)] w' fun e w'' => ∃ q, e = .returned (.tuple #[.pointer (tp q), .int .i64 (if z then 1 else 0)]) ∧ q.isNone = z ∧ Own w0 w'' (RTbO q m' [] :: l') := by
  by_cases hm : m < 64
  · refine ⟨false, m, TOk.nil hm, ?_, ?_⟩
    · refine (tnew w0 w l m h hm).mono ?_
      rintro e w' ⟨b, rfl, hO⟩
      exact ⟨some b, rfl, rfl, hO⟩
    · intro w' l' h'
      refine (rtnew w0 w' l' m h' hm).mono ?_
      rintro e w'' ⟨b, rfl, hO⟩
      exact ⟨some b, rfl, rfl, hO⟩
  · refine ⟨true, 0, TOk.nil (by decide), ?_, ?_⟩
    · refine (tnewno w m (by omega)).mono ?_
      rintro e w' ⟨rfl, rfl⟩
      exact ⟨none, rfl, rfl, h.empT⟩
    · intro w' l' h'
      refine (rtnewno w' m (by omega)).mono ?_
      rintro e w'' ⟨rfl, rfl⟩
      exact ⟨none, rfl, rfl, h'.empT⟩
end
end Go.Proofs.YtmfdeaaemngbpaaDoor
