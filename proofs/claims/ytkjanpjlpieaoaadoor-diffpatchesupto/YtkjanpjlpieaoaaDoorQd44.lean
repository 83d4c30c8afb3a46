/-
  The document's Patch: those who come.
-/
import Derived.Test.YtkjanpjlpieaoaaDoorQd43
namespace Go.Proofs.YtkjanpjlpieaoaaDoor
open Go.ChangeShapes Go.WideShapes Go.ChangeAt Go.RowKit
set_option linter.unusedVariables false
set_option maxRecDepth 100000

/-- how many components and entities -/
def ezv (L : List En) : Nat := (L.map (fun e => e.2.length + 1)).sum
theorem esz_ezv (L : List EnE) : esz L = ezv (evs L) := by
  induction L with
  | nil => rfl
  | cons x t ih =>
    have e : evs (x :: t) = (x.id, x.C) :: evs t := rfl
    unfold esz at ih ⊢
    unfold ezv at ih ⊢
    rw [e, List.map_cons, List.sum_cons, ← ih]
    simp only [csz, List.length_cons]
    omega
theorem ezv_ins (L : List En) (e : En) : ezv (insE L e) = ezv L + (e.2.length + 1) := by
  induction L with
  | nil => simp [insE, ezv]
  | cons a t ih =>
    rw [insE_cons]
    split
    · unfold ezv at ih ⊢
      rw [List.map_cons, List.sum_cons, ih, List.map_cons, List.sum_cons]; omega
    · unfold ezv
      rw [List.map_cons, List.sum_cons, Nat.add_comm]
theorem esz_tk {L : List EnE} {j : Nat} {x : EnE} (h : L[j]? = some x) : esz (L.take (j + 1)) = esz (L.take j) + (x.C.length + 1) := by
  have hj := (List.getElem?_eq_some_iff.1 h).1
  unfold esz
  rw [csz_take h, List.length_take, List.length_take]; omega
theorem esz_tk_le (L : List EnE) (j : Nat) : esz (L.take j) ≤ esz L := by
  have := esz_app (L.take j) (L.drop j)
  rw [List.take_append_drop] at this
  omega
theorem NowI.ins {w0 : World} {X T : List Thing} {N O : List EnE} {B : Nat} {e : EnE} (h : NowI w0 X T N B) (hm : ∀ y ∈ O, y = e ∨ y ∈ N) (he : evs O = insE (evs N) (e.id, e.C)) (hi : e.id < 4294967296 ∧ ∀ q ∈ e.C, q.k < 256) (hc : ∀ w', Own w0 w' T → Cs w' e.ao e.C) : NowI w0 X T O (B + (e.C.length + 1)) where
  cs := fun w' hw y hy => by
    rcases hm y hy with rfl | hy
    · exact hc w' hw.dropA
    · exact h.cs w' hw y hy
  inn := fun y hy => by
    rcases hm y hy with rfl | hy
    · exact hi
    · exact h.inn y hy
  sz := by
    have := h.sz
    rw [esz_ezv] at this ⊢
    rw [he, ezv_ins]
    simp only
    omega
set_option maxHeartbeats 16000000 in
theorem gp_come (w0 W : World) (T : List Thing) (aw : Option Addr) (nw cw b3 : Nat) (Wl M : List EnE) (ma : Option Addr) (ml mc : Nat) (HW : Hid ((∀ w', Own w0 w' T → EntsAt w' aw Wl ∧ EntsAt w' ma M) ∧ Wl.length = nw ∧ Upe (evs Wl) ∧ M.length = ml ∧ EIn M)) (hnw : nw ≤ 1000000) (N0 : List EnE) (X : List Thing) (a0 : Option Addr) (c0 B : Nat) (hB : B + esz M ≤ 100000) (HN : Hid (NowI w0 X T N0 B)) (H : Hid (Own w0 W (Row 43 2 (.slice a0 N0.length c0) N0.length (cat EnE.cs N0) :: (X ++ T)))) (J K' : Act → World → Prop) (Q' : Exit → Act → World → Prop) (HJ : Hid (∀ a' wc, (∃ (N : List EnE) (a : Option Addr) (c : Nat), a' = { tmps := #[.slice aw nw cw, a'.tmps.getD 1 undef, a'.tmps.getD 2 undef, .pointer (some ⟨b3, 0, none⟩), a'.tmps.getD 4 undef, a'.tmps.getD 5 undef, a'.tmps.getD 6 undef, .slice a N.length c, a'.tmps.getD 8 undef, a'.tmps.getD 9 undef, a'.tmps.getD 10 undef, a'.tmps.getD 11 undef, a'.tmps.getD 12 undef, a'.tmps.getD 13 undef, a'.tmps.getD 14 undef, a'.tmps.getD 15 undef, a'.tmps.getD 16 undef, a'.tmps.getD 17 undef, a'.tmps.getD 18 undef, a'.tmps.getD 19 undef, a'.tmps.getD 20 undef, a'.tmps.getD 21 undef, a'.tmps.getD 22 undef, a'.tmps.getD 23 undef, a'.tmps.getD 24 undef, a'.tmps.getD 25 undef, a'.tmps.getD 26 undef, a'.tmps.getD 27 undef, a'.tmps.getD 28 undef, a'.tmps.getD 29 undef, a'.tmps.getD 30 undef, a'.tmps.getD 31 undef, a'.tmps.getD 32 undef, a'.tmps.getD 33 undef, a'.tmps.getD 34 undef, a'.tmps.getD 35 undef, a'.tmps.getD 36 undef, a'.tmps.getD 37 undef, a'.tmps.getD 38 undef, a'.tmps.getD 39 undef, a'.tmps.getD 40 undef, a'.tmps.getD 41 undef, a'.tmps.getD 42 undef, a'.tmps.getD 43 undef, a'.tmps.getD 44 undef, a'.tmps.getD 45 undef, a'.tmps.getD 46 undef, a'.tmps.getD 47 undef, a'.tmps.getD 48 undef, a'.tmps.getD 49 undef, a'.tmps.getD 50 undef, a'.tmps.getD 51 undef, a'.tmps.getD 52 undef, a'.tmps.getD 53 undef, a'.tmps.getD 54 undef, a'.tmps.getD 55 undef, a'.tmps.getD 56 undef, a'.tmps.getD 57 undef, a'.tmps.getD 58 undef, a'.tmps.getD 59 undef, a'.tmps.getD 60 undef, a'.tmps.getD 61 undef, a'.tmps.getD 62 undef, a'.tmps.getD 63 undef, a'.tmps.getD 64 undef, a'.tmps.getD 65 undef, a'.tmps.getD 66 undef, a'.tmps.getD 67 undef, a'.tmps.getD 68 undef, a'.tmps.getD 69 undef, a'.tmps.getD 70 undef, a'.tmps.getD 71 undef, a'.tmps.getD 72 undef, a'.tmps.getD 73 undef, a'.tmps.getD 74 undef, a'.tmps.getD 75 undef, a'.tmps.getD 76 undef, a'.tmps.getD 77 undef, a'.tmps.getD 78 undef, a'.tmps.getD 79 undef, a'.tmps.getD 80 undef, a'.tmps.getD 81 undef, a'.tmps.getD 82 undef, a'.tmps.getD 83 undef, a'.tmps.getD 84 undef, a'.tmps.getD 85 undef, a'.tmps.getD 86 undef, a'.tmps.getD 87 undef, a'.tmps.getD 88 undef, a'.tmps.getD 89 undef, a'.tmps.getD 90 undef, a'.tmps.getD 91 undef, a'.tmps.getD 92 undef, a'.tmps.getD 93 undef, a'.tmps.getD 94 undef, a'.tmps.getD 95 undef, a'.tmps.getD 96 undef, a'.tmps.getD 97 undef, a'.tmps.getD 98 undef, a'.tmps.getD 99 undef, a'.tmps.getD 100 undef, a'.tmps.getD 101 undef, a'.tmps.getD 102 undef, a'.tmps.getD 103 undef, a'.tmps.getD 104 undef, a'.tmps.getD 105 undef, a'.tmps.getD 106 undef, a'.tmps.getD 107 undef, a'.tmps.getD 108 undef, a'.tmps.getD 109 undef, a'.tmps.getD 110 undef, a'.tmps.getD 111 undef, a'.tmps.getD 112 undef, a'.tmps.getD 113 undef, a'.tmps.getD 114 undef, a'.tmps.getD 115 undef, a'.tmps.getD 116 undef, a'.tmps.getD 117 undef, a'.tmps.getD 118 undef, a'.tmps.getD 119 undef, a'.tmps.getD 120 undef, a'.tmps.getD 121 undef, a'.tmps.getD 122 undef, a'.tmps.getD 123 undef, a'.tmps.getD 124 undef, a'.tmps.getD 125 undef, a'.tmps.getD 126 undef, a'.tmps.getD 127 undef, a'.tmps.getD 128 undef, a'.tmps.getD 129 undef, a'.tmps.getD 130 undef, a'.tmps.getD 131 undef, a'.tmps.getD 132 undef, a'.tmps.getD 133 undef, a'.tmps.getD 134 undef, a'.tmps.getD 135 undef, a'.tmps.getD 136 undef, a'.tmps.getD 137 undef, a'.tmps.getD 138 undef, a'.tmps.getD 139 undef, a'.tmps.getD 140 undef, a'.tmps.getD 141 undef, a'.tmps.getD 142 undef, a'.tmps.getD 143 undef, a'.tmps.getD 144 undef, a'.tmps.getD 145 undef, a'.tmps.getD 146 undef, a'.tmps.getD 147 undef, a'.tmps.getD 148 undef, a'.tmps.getD 149 undef, a'.tmps.getD 150 undef, a'.tmps.getD 151 undef, a'.tmps.getD 152 undef, a'.tmps.getD 153 undef, a'.tmps.getD 154 undef, a'.tmps.getD 155 undef, a'.tmps.getD 156 undef, a'.tmps.getD 157 undef, a'.tmps.getD 158 undef, a'.tmps.getD 159 undef, a'.tmps.getD 160 undef, a'.tmps.getD 161 undef, a'.tmps.getD 162 undef, a'.tmps.getD 163 undef, a'.tmps.getD 164 undef, a'.tmps.getD 165 undef, a'.tmps.getD 166 undef, a'.tmps.getD 167 undef, a'.tmps.getD 168 undef, a'.tmps.getD 169 undef, a'.tmps.getD 170 undef, a'.tmps.getD 171 undef, a'.tmps.getD 172 undef, a'.tmps.getD 173 undef, a'.tmps.getD 174 undef, a'.tmps.getD 175 undef, a'.tmps.getD 176 undef, a'.tmps.getD 177 undef, a'.tmps.getD 178 undef, a'.tmps.getD 179 undef, a'.tmps.getD 180 undef, a'.tmps.getD 181 undef, a'.tmps.getD 182 undef, a'.tmps.getD 183 undef, a'.tmps.getD 184 undef, a'.tmps.getD 185 undef, a'.tmps.getD 186 undef, a'.tmps.getD 187 undef, a'.tmps.getD 188 undef, a'.tmps.getD 189 undef, a'.tmps.getD 190 undef, a'.tmps.getD 191 undef, a'.tmps.getD 192 undef, a'.tmps.getD 193 undef, a'.tmps.getD 194 undef], defers := [] } ∧ NowI w0 X T N (B + esz M) ∧ goCome (evs Wl) (evs N0) (evs M) = some (evs N) ∧ Own w0 wc (Row 43 2 (.slice a N.length c) N.length (cat EnE.cs N) :: (X ++ T))) → J a' wc)) (HR : Hid (∀ a' wc, (a' = { tmps := #[a'.tmps.getD 0 undef, a'.tmps.getD 1 undef, a'.tmps.getD 2 undef, a'.tmps.getD 3 undef, .slice none 0 0, .int .i64 4, a'.tmps.getD 6 undef, a'.tmps.getD 7 undef, a'.tmps.getD 8 undef, a'.tmps.getD 9 undef, a'.tmps.getD 10 undef, a'.tmps.getD 11 undef, a'.tmps.getD 12 undef, a'.tmps.getD 13 undef, a'.tmps.getD 14 undef, a'.tmps.getD 15 undef, a'.tmps.getD 16 undef, a'.tmps.getD 17 undef, a'.tmps.getD 18 undef, a'.tmps.getD 19 undef, a'.tmps.getD 20 undef, a'.tmps.getD 21 undef, a'.tmps.getD 22 undef, a'.tmps.getD 23 undef, a'.tmps.getD 24 undef, a'.tmps.getD 25 undef, a'.tmps.getD 26 undef, a'.tmps.getD 27 undef, a'.tmps.getD 28 undef, a'.tmps.getD 29 undef, a'.tmps.getD 30 undef, a'.tmps.getD 31 undef, a'.tmps.getD 32 undef, a'.tmps.getD 33 undef, a'.tmps.getD 34 undef, a'.tmps.getD 35 undef, a'.tmps.getD 36 undef, a'.tmps.getD 37 undef, a'.tmps.getD 38 undef, a'.tmps.getD 39 undef, a'.tmps.getD 40 undef, a'.tmps.getD 41 undef, a'.tmps.getD 42 undef, a'.tmps.getD 43 undef, a'.tmps.getD 44 undef, a'.tmps.getD 45 undef, a'.tmps.getD 46 undef, a'.tmps.getD 47 undef, a'.tmps.getD 48 undef, a'.tmps.getD 49 undef, a'.tmps.getD 50 undef, a'.tmps.getD 51 undef, a'.tmps.getD 52 undef, a'.tmps.getD 53 undef, a'.tmps.getD 54 undef, a'.tmps.getD 55 undef, a'.tmps.getD 56 undef, a'.tmps.getD 57 undef, a'.tmps.getD 58 undef, a'.tmps.getD 59 undef, a'.tmps.getD 60 undef, a'.tmps.getD 61 undef, a'.tmps.getD 62 undef, a'.tmps.getD 63 undef, a'.tmps.getD 64 undef, a'.tmps.getD 65 undef, a'.tmps.getD 66 undef, a'.tmps.getD 67 undef, a'.tmps.getD 68 undef, a'.tmps.getD 69 undef, a'.tmps.getD 70 undef, a'.tmps.getD 71 undef, a'.tmps.getD 72 undef, a'.tmps.getD 73 undef, a'.tmps.getD 74 undef, a'.tmps.getD 75 undef, a'.tmps.getD 76 undef, a'.tmps.getD 77 undef, a'.tmps.getD 78 undef, a'.tmps.getD 79 undef, a'.tmps.getD 80 undef, a'.tmps.getD 81 undef, a'.tmps.getD 82 undef, a'.tmps.getD 83 undef, a'.tmps.getD 84 undef, a'.tmps.getD 85 undef, a'.tmps.getD 86 undef, a'.tmps.getD 87 undef, a'.tmps.getD 88 undef, a'.tmps.getD 89 undef, a'.tmps.getD 90 undef, a'.tmps.getD 91 undef, a'.tmps.getD 92 undef, a'.tmps.getD 93 undef, a'.tmps.getD 94 undef, a'.tmps.getD 95 undef, a'.tmps.getD 96 undef, a'.tmps.getD 97 undef, a'.tmps.getD 98 undef, a'.tmps.getD 99 undef, a'.tmps.getD 100 undef, a'.tmps.getD 101 undef, a'.tmps.getD 102 undef, a'.tmps.getD 103 undef, a'.tmps.getD 104 undef, a'.tmps.getD 105 undef, a'.tmps.getD 106 undef, a'.tmps.getD 107 undef, a'.tmps.getD 108 undef, a'.tmps.getD 109 undef, a'.tmps.getD 110 undef, a'.tmps.getD 111 undef, a'.tmps.getD 112 undef, a'.tmps.getD 113 undef, a'.tmps.getD 114 undef, a'.tmps.getD 115 undef, a'.tmps.getD 116 undef, a'.tmps.getD 117 undef, a'.tmps.getD 118 undef, a'.tmps.getD 119 undef, a'.tmps.getD 120 undef, a'.tmps.getD 121 undef, a'.tmps.getD 122 undef, a'.tmps.getD 123 undef, a'.tmps.getD 124 undef, a'.tmps.getD 125 undef, a'.tmps.getD 126 undef, a'.tmps.getD 127 undef, a'.tmps.getD 128 undef, a'.tmps.getD 129 undef, a'.tmps.getD 130 undef, a'.tmps.getD 131 undef, a'.tmps.getD 132 undef, a'.tmps.getD 133 undef, a'.tmps.getD 134 undef, a'.tmps.getD 135 undef, a'.tmps.getD 136 undef, a'.tmps.getD 137 undef, a'.tmps.getD 138 undef, a'.tmps.getD 139 undef, a'.tmps.getD 140 undef, a'.tmps.getD 141 undef, a'.tmps.getD 142 undef, a'.tmps.getD 143 undef, a'.tmps.getD 144 undef, a'.tmps.getD 145 undef, a'.tmps.getD 146 undef, a'.tmps.getD 147 undef, a'.tmps.getD 148 undef, a'.tmps.getD 149 undef, a'.tmps.getD 150 undef, a'.tmps.getD 151 undef, a'.tmps.getD 152 undef, a'.tmps.getD 153 undef, a'.tmps.getD 154 undef, a'.tmps.getD 155 undef, a'.tmps.getD 156 undef, a'.tmps.getD 157 undef, a'.tmps.getD 158 undef, a'.tmps.getD 159 undef, a'.tmps.getD 160 undef, a'.tmps.getD 161 undef, a'.tmps.getD 162 undef, a'.tmps.getD 163 undef, a'.tmps.getD 164 undef, a'.tmps.getD 165 undef, a'.tmps.getD 166 undef, a'.tmps.getD 167 undef, a'.tmps.getD 168 undef, a'.tmps.getD 169 undef, a'.tmps.getD 170 undef, a'.tmps.getD 171 undef, a'.tmps.getD 172 undef, a'.tmps.getD 173 undef, a'.tmps.getD 174 undef, a'.tmps.getD 175 undef, a'.tmps.getD 176 undef, a'.tmps.getD 177 undef, a'.tmps.getD 178 undef, a'.tmps.getD 179 undef, a'.tmps.getD 180 undef, a'.tmps.getD 181 undef, a'.tmps.getD 182 undef, a'.tmps.getD 183 undef, a'.tmps.getD 184 undef, a'.tmps.getD 185 undef, a'.tmps.getD 186 undef, a'.tmps.getD 187 undef, a'.tmps.getD 188 undef, a'.tmps.getD 189 undef, a'.tmps.getD 190 undef, a'.tmps.getD 191 undef, a'.tmps.getD 192 undef, a'.tmps.getD 193 undef, a'.tmps.getD 194 undef], defers := [] } ∧ goCome (evs Wl) (evs N0) (evs M) = none ∧ Own w0 wc T) → Q' .ret a' wc)) (hK' : ∀ a' w', Met J a' w' → K' a' w') (a' : Act) (hact : a' = { tmps := #[.slice aw nw cw, a'.tmps.getD 1 undef, a'.tmps.getD 2 undef, .pointer (some ⟨b3, 0, none⟩), a'.tmps.getD 4 undef, a'.tmps.getD 5 undef, a'.tmps.getD 6 undef, .slice a0 N0.length c0, a'.tmps.getD 8 undef, a'.tmps.getD 9 undef, a'.tmps.getD 10 undef, a'.tmps.getD 11 undef, a'.tmps.getD 12 undef, a'.tmps.getD 13 undef, a'.tmps.getD 14 undef, a'.tmps.getD 15 undef, a'.tmps.getD 16 undef, a'.tmps.getD 17 undef, a'.tmps.getD 18 undef, a'.tmps.getD 19 undef, a'.tmps.getD 20 undef, a'.tmps.getD 21 undef, a'.tmps.getD 22 undef, a'.tmps.getD 23 undef, a'.tmps.getD 24 undef, a'.tmps.getD 25 undef, a'.tmps.getD 26 undef, a'.tmps.getD 27 undef, a'.tmps.getD 28 undef, a'.tmps.getD 29 undef, a'.tmps.getD 30 undef, a'.tmps.getD 31 undef, a'.tmps.getD 32 undef, a'.tmps.getD 33 undef, a'.tmps.getD 34 undef, a'.tmps.getD 35 undef, a'.tmps.getD 36 undef, a'.tmps.getD 37 undef, a'.tmps.getD 38 undef, a'.tmps.getD 39 undef, a'.tmps.getD 40 undef, a'.tmps.getD 41 undef, a'.tmps.getD 42 undef, a'.tmps.getD 43 undef, a'.tmps.getD 44 undef, a'.tmps.getD 45 undef, a'.tmps.getD 46 undef, a'.tmps.getD 47 undef, a'.tmps.getD 48 undef, a'.tmps.getD 49 undef, a'.tmps.getD 50 undef, a'.tmps.getD 51 undef, a'.tmps.getD 52 undef, a'.tmps.getD 53 undef, a'.tmps.getD 54 undef, a'.tmps.getD 55 undef, a'.tmps.getD 56 undef, a'.tmps.getD 57 undef, a'.tmps.getD 58 undef, a'.tmps.getD 59 undef, a'.tmps.getD 60 undef, a'.tmps.getD 61 undef, a'.tmps.getD 62 undef, a'.tmps.getD 63 undef, a'.tmps.getD 64 undef, a'.tmps.getD 65 undef, a'.tmps.getD 66 undef, a'.tmps.getD 67 undef, a'.tmps.getD 68 undef, a'.tmps.getD 69 undef, a'.tmps.getD 70 undef, a'.tmps.getD 71 undef, a'.tmps.getD 72 undef, a'.tmps.getD 73 undef, a'.tmps.getD 74 undef, a'.tmps.getD 75 undef, a'.tmps.getD 76 undef, a'.tmps.getD 77 undef, a'.tmps.getD 78 undef, a'.tmps.getD 79 undef, a'.tmps.getD 80 undef, a'.tmps.getD 81 undef, a'.tmps.getD 82 undef, a'.tmps.getD 83 undef, a'.tmps.getD 84 undef, a'.tmps.getD 85 undef, a'.tmps.getD 86 undef, a'.tmps.getD 87 undef, a'.tmps.getD 88 undef, a'.tmps.getD 89 undef, a'.tmps.getD 90 undef, a'.tmps.getD 91 undef, a'.tmps.getD 92 undef, a'.tmps.getD 93 undef, a'.tmps.getD 94 undef, a'.tmps.getD 95 undef, a'.tmps.getD 96 undef, a'.tmps.getD 97 undef, a'.tmps.getD 98 undef, a'.tmps.getD 99 undef, a'.tmps.getD 100 undef, a'.tmps.getD 101 undef, a'.tmps.getD 102 undef, a'.tmps.getD 103 undef, a'.tmps.getD 104 undef, a'.tmps.getD 105 undef, a'.tmps.getD 106 undef, a'.tmps.getD 107 undef, a'.tmps.getD 108 undef, a'.tmps.getD 109 undef, a'.tmps.getD 110 undef, a'.tmps.getD 111 undef, a'.tmps.getD 112 undef, a'.tmps.getD 113 undef, a'.tmps.getD 114 undef, a'.tmps.getD 115 undef, a'.tmps.getD 116 undef, a'.tmps.getD 117 undef, a'.tmps.getD 118 undef, a'.tmps.getD 119 undef, a'.tmps.getD 120 undef, a'.tmps.getD 121 undef, a'.tmps.getD 122 undef, a'.tmps.getD 123 undef, a'.tmps.getD 124 undef, a'.tmps.getD 125 undef, a'.tmps.getD 126 undef, a'.tmps.getD 127 undef, a'.tmps.getD 128 undef, a'.tmps.getD 129 undef, a'.tmps.getD 130 undef, a'.tmps.getD 131 undef, a'.tmps.getD 132 undef, a'.tmps.getD 133 undef, a'.tmps.getD 134 undef, a'.tmps.getD 135 undef, .slice ma ml mc, .int .i64 (ml : Int), .int .i64 0, a'.tmps.getD 139 undef, a'.tmps.getD 140 undef, a'.tmps.getD 141 undef, a'.tmps.getD 142 undef, a'.tmps.getD 143 undef, a'.tmps.getD 144 undef, a'.tmps.getD 145 undef, a'.tmps.getD 146 undef, a'.tmps.getD 147 undef, a'.tmps.getD 148 undef, a'.tmps.getD 149 undef, a'.tmps.getD 150 undef, a'.tmps.getD 151 undef, a'.tmps.getD 152 undef, a'.tmps.getD 153 undef, a'.tmps.getD 154 undef, a'.tmps.getD 155 undef, a'.tmps.getD 156 undef, a'.tmps.getD 157 undef, a'.tmps.getD 158 undef, a'.tmps.getD 159 undef, a'.tmps.getD 160 undef, a'.tmps.getD 161 undef, a'.tmps.getD 162 undef, a'.tmps.getD 163 undef, a'.tmps.getD 164 undef, a'.tmps.getD 165 undef, a'.tmps.getD 166 undef, a'.tmps.getD 167 undef, a'.tmps.getD 168 undef, a'.tmps.getD 169 undef, a'.tmps.getD 170 undef, a'.tmps.getD 171 undef, a'.tmps.getD 172 undef, a'.tmps.getD 173 undef, a'.tmps.getD 174 undef, a'.tmps.getD 175 undef, a'.tmps.getD 176 undef, a'.tmps.getD 177 undef, a'.tmps.getD 178 undef, a'.tmps.getD 179 undef, a'.tmps.getD 180 undef, a'.tmps.getD 181 undef, a'.tmps.getD 182 undef, a'.tmps.getD 183 undef, a'.tmps.getD 184 undef, a'.tmps.getD 185 undef, a'.tmps.getD 186 undef, a'.tmps.getD 187 undef, a'.tmps.getD 188 undef, a'.tmps.getD 189 undef, a'.tmps.getD 190 undef, a'.tmps.getD 191 undef, a'.tmps.getD 192 undef, a'.tmps.getD 193 undef, a'.tmps.getD 194 undef], defers := [] }) : (csnd (cfst (csnd (csnd (csnd (csnd (csnd ((Tryd.f10.body).getD .skip)))))))).wp Tryd.prog (Exit.then K' Q') a' W := by
  obtain ⟨iE, hiE, hE0, hE1, hE2⟩ := info3w Tryd.infoEnt
  obtain ⟨u, hu⟩ : ∃ u : Nat → Value, ∀ k, a'.tmps.getD k undef = u k := ⟨_, fun _ => rfl⟩
  simp only [hu] at hact
  clear hu
  subst hact
  refine wp_qP ?_
  dsimp only [cfst, csnd, cinn, Tryd.f10, Option.getD]
  have hmll : ml ≤ 100000 := by have := HW.out.2.2.2.1; unfold esz at hB; omega
  go_wp2
  refine wp_loop (fun a' wr => ∃ (j : Nat) (N : List EnE) (a : Option Addr) (c : Nat), a' = { tmps := #[.slice aw nw cw, a'.tmps.getD 1 undef, a'.tmps.getD 2 undef, .pointer (some ⟨b3, 0, none⟩), a'.tmps.getD 4 undef, a'.tmps.getD 5 undef, a'.tmps.getD 6 undef, .slice a N.length c, a'.tmps.getD 8 undef, a'.tmps.getD 9 undef, a'.tmps.getD 10 undef, a'.tmps.getD 11 undef, a'.tmps.getD 12 undef, a'.tmps.getD 13 undef, a'.tmps.getD 14 undef, a'.tmps.getD 15 undef, a'.tmps.getD 16 undef, a'.tmps.getD 17 undef, a'.tmps.getD 18 undef, a'.tmps.getD 19 undef, a'.tmps.getD 20 undef, a'.tmps.getD 21 undef, a'.tmps.getD 22 undef, a'.tmps.getD 23 undef, a'.tmps.getD 24 undef, a'.tmps.getD 25 undef, a'.tmps.getD 26 undef, a'.tmps.getD 27 undef, a'.tmps.getD 28 undef, a'.tmps.getD 29 undef, a'.tmps.getD 30 undef, a'.tmps.getD 31 undef, a'.tmps.getD 32 undef, a'.tmps.getD 33 undef, a'.tmps.getD 34 undef, a'.tmps.getD 35 undef, a'.tmps.getD 36 undef, a'.tmps.getD 37 undef, a'.tmps.getD 38 undef, a'.tmps.getD 39 undef, a'.tmps.getD 40 undef, a'.tmps.getD 41 undef, a'.tmps.getD 42 undef, a'.tmps.getD 43 undef, a'.tmps.getD 44 undef, a'.tmps.getD 45 undef, a'.tmps.getD 46 undef, a'.tmps.getD 47 undef, a'.tmps.getD 48 undef, a'.tmps.getD 49 undef, a'.tmps.getD 50 undef, a'.tmps.getD 51 undef, a'.tmps.getD 52 undef, a'.tmps.getD 53 undef, a'.tmps.getD 54 undef, a'.tmps.getD 55 undef, a'.tmps.getD 56 undef, a'.tmps.getD 57 undef, a'.tmps.getD 58 undef, a'.tmps.getD 59 undef, a'.tmps.getD 60 undef, a'.tmps.getD 61 undef, a'.tmps.getD 62 undef, a'.tmps.getD 63 undef, a'.tmps.getD 64 undef, a'.tmps.getD 65 undef, a'.tmps.getD 66 undef, a'.tmps.getD 67 undef, a'.tmps.getD 68 undef, a'.tmps.getD 69 undef, a'.tmps.getD 70 undef, a'.tmps.getD 71 undef, a'.tmps.getD 72 undef, a'.tmps.getD 73 undef, a'.tmps.getD 74 undef, a'.tmps.getD 75 undef, a'.tmps.getD 76 undef, a'.tmps.getD 77 undef, a'.tmps.getD 78 undef, a'.tmps.getD 79 undef, a'.tmps.getD 80 undef, a'.tmps.getD 81 undef, a'.tmps.getD 82 undef, a'.tmps.getD 83 undef, a'.tmps.getD 84 undef, a'.tmps.getD 85 undef, a'.tmps.getD 86 undef, a'.tmps.getD 87 undef, a'.tmps.getD 88 undef, a'.tmps.getD 89 undef, a'.tmps.getD 90 undef, a'.tmps.getD 91 undef, a'.tmps.getD 92 undef, a'.tmps.getD 93 undef, a'.tmps.getD 94 undef, a'.tmps.getD 95 undef, a'.tmps.getD 96 undef, a'.tmps.getD 97 undef, a'.tmps.getD 98 undef, a'.tmps.getD 99 undef, a'.tmps.getD 100 undef, a'.tmps.getD 101 undef, a'.tmps.getD 102 undef, a'.tmps.getD 103 undef, a'.tmps.getD 104 undef, a'.tmps.getD 105 undef, a'.tmps.getD 106 undef, a'.tmps.getD 107 undef, a'.tmps.getD 108 undef, a'.tmps.getD 109 undef, a'.tmps.getD 110 undef, a'.tmps.getD 111 undef, a'.tmps.getD 112 undef, a'.tmps.getD 113 undef, a'.tmps.getD 114 undef, a'.tmps.getD 115 undef, a'.tmps.getD 116 undef, a'.tmps.getD 117 undef, a'.tmps.getD 118 undef, a'.tmps.getD 119 undef, a'.tmps.getD 120 undef, a'.tmps.getD 121 undef, a'.tmps.getD 122 undef, a'.tmps.getD 123 undef, a'.tmps.getD 124 undef, a'.tmps.getD 125 undef, a'.tmps.getD 126 undef, a'.tmps.getD 127 undef, a'.tmps.getD 128 undef, a'.tmps.getD 129 undef, a'.tmps.getD 130 undef, a'.tmps.getD 131 undef, a'.tmps.getD 132 undef, a'.tmps.getD 133 undef, a'.tmps.getD 134 undef, a'.tmps.getD 135 undef, .slice ma ml mc, .int .i64 (ml : Int), .int .i64 (j : Int), a'.tmps.getD 139 undef, a'.tmps.getD 140 undef, a'.tmps.getD 141 undef, a'.tmps.getD 142 undef, a'.tmps.getD 143 undef, a'.tmps.getD 144 undef, a'.tmps.getD 145 undef, a'.tmps.getD 146 undef, a'.tmps.getD 147 undef, a'.tmps.getD 148 undef, a'.tmps.getD 149 undef, a'.tmps.getD 150 undef, a'.tmps.getD 151 undef, a'.tmps.getD 152 undef, a'.tmps.getD 153 undef, a'.tmps.getD 154 undef, a'.tmps.getD 155 undef, a'.tmps.getD 156 undef, a'.tmps.getD 157 undef, a'.tmps.getD 158 undef, a'.tmps.getD 159 undef, a'.tmps.getD 160 undef, a'.tmps.getD 161 undef, a'.tmps.getD 162 undef, a'.tmps.getD 163 undef, a'.tmps.getD 164 undef, a'.tmps.getD 165 undef, a'.tmps.getD 166 undef, a'.tmps.getD 167 undef, a'.tmps.getD 168 undef, a'.tmps.getD 169 undef, a'.tmps.getD 170 undef, a'.tmps.getD 171 undef, a'.tmps.getD 172 undef, a'.tmps.getD 173 undef, a'.tmps.getD 174 undef, a'.tmps.getD 175 undef, a'.tmps.getD 176 undef, a'.tmps.getD 177 undef, a'.tmps.getD 178 undef, a'.tmps.getD 179 undef, a'.tmps.getD 180 undef, a'.tmps.getD 181 undef, a'.tmps.getD 182 undef, a'.tmps.getD 183 undef, a'.tmps.getD 184 undef, a'.tmps.getD 185 undef, a'.tmps.getD 186 undef, a'.tmps.getD 187 undef, a'.tmps.getD 188 undef, a'.tmps.getD 189 undef, a'.tmps.getD 190 undef, a'.tmps.getD 191 undef, a'.tmps.getD 192 undef, a'.tmps.getD 193 undef, a'.tmps.getD 194 undef], defers := [] } ∧ j ≤ ml ∧ NowI w0 X T N (B + esz (M.take j)) ∧ goCome (evs Wl) (evs N) ((evs M).drop j) = goCome (evs Wl) (evs N0) (evs M) ∧ Own w0 wr (Row 43 2 (.slice a N.length c) N.length (cat EnE.cs N) :: (X ++ T))) (fun a' _ => ml - (intOf (a'.tmps.getD 138 undef)).toNat) ?_ ?_
  · exact ⟨0, N0, a0, c0, rfl, Nat.zero_le _, HN.out, by rw [List.drop_zero], H.out⟩
  · intro a' wr hI
    obtain ⟨j, N, a, c, hact, hj, hNI, hgo, hO⟩ := hI
    obtain ⟨u2, hu⟩ : ∃ u2 : Nat → Value, ∀ k, a'.tmps.getD k undef = u2 k := ⟨_, fun _ => rfl⟩
    simp only [hu] at hact
    clear hu
    subst hact
    have hst := esz_tk_le M j
    have hnl : N.length ≤ 100000 := by have := hNI.sz; unfold esz at this hst hB; omega
    have HU : Hid (NowI w0 X T N (B + esz (M.take j)) ∧ goCome (evs Wl) (evs N) ((evs M).drop j) = goCome (evs Wl) (evs N0) (evs M)) := ⟨hNI, hgo⟩
    clear hst H HN
    by_cases hlt : j < ml
    · obtain ⟨x, hx⟩ : ∃ x, M[j]? = some x := ⟨_, List.getElem?_eq_getElem (by rw [HW.out.2.2.2.1]; exact hlt)⟩
      obtain ⟨g, o, hga, y0, y1, -⟩ := ((HW.out.1 wr hO.tail.dropA).2).at hx
      have hlt' : (j : Int) < (ml : Int) := by omega
      have hA := hO.allocC #[.int .u32 (x.id : Int), .slice x.ao x.C.length x.cap] 43
      have HFI : Hid (Calls _ _ _ _ _) := rfindE_any (wr.alloc (.cells #[.int .u32 (x.id : Int), .slice x.ao x.C.length x.cap] 43)) aw nw cw Wl (HW.out.1 _ hA.tail.tail.dropA).1 HW.out.2.1 (by omega) x.id
      have HX : Hid (M[j]? = some x) := hx
      have HXC : Hid (x.C.length ≤ 100000) := by have := csz_mem (List.mem_of_getElem? hx); unfold esz at hB; show _ ≤ _; omega
      have HGA : Hid (ma = some ⟨g, o, none⟩) := hga
      have HO : Hid (Own w0 _ _) := hA
      have q0 := hA.cell 0
      have q1 := hA.cell 1
      simp only [List.getElem?_toArray, List.getElem?_cons_zero, List.getElem?_cons_succ] at q0 q1
      obtain ⟨xi, xa, xc, xC⟩ := x
      simp only at y0 y1 q0 q1 HFI HXC HO
      obtain ⟨xl, hxl⟩ : ∃ xl, xl = xC.length := ⟨_, rfl⟩
      obtain ⟨n, hn⟩ : ∃ n, n = N.length := ⟨_, rfl⟩
      have HNL : Hid (N.length = n ∧ xC.length = xl) := ⟨hn.symm, hxl.symm⟩
      simp only [← hn, ← hxl] at hnl HFI HO y0 y1 q0 q1 HXC ⊢
      rw [hga]
      clear hga hx hNI hgo hO hA hn hxl
      go_wp2_with fail
      refine HFI.out.mono ?_
      rintro e w2 ⟨r, rfl, hfr, hf⟩
      have hO2 := HO.out.quiet hf
      clear HFI hf HO y0 y1 q0 q1
      generalize wr.heap.size = b21 at *
      have HCX : Hid ((evs M)[j]? = some (xi, xC)) := evs_at HX.out
      by_cases hr : r < 0
      · have hr' : ¬ 0 ≤ r := by omega
        have HNO : Hid (fstE (evs Wl) xi = none) := find_no hfr hr
        have HO2 : Hid (Own w0 w2 _) := hO2
        clear hfr hO2 hr
        go_upto_block 12 with fail
        rename_i KK1 hKK1
        refine gp_lay w0 w2 (X ++ T) (.slice aw nw cw) (.pointer (some ⟨b3, 0, none⟩)) (.slice (some ⟨g, o, none⟩) ml mc) (.int .i64 (ml : Int)) (.int .i64 (j : Int)) a n c b21 xi xl xc xa xC N hnl HNL HO2.out KK1 KK1 _ ?hm1 (fun _ _ h => h) _ ?ha1
        case ha1 => rfl
        case hm1 =>
          intro a' w3 hm
          obtain ⟨O, dn, a1, c1, hact, hcm, hO3⟩ := hm
          obtain ⟨u3, hu⟩ : ∃ u3 : Nat → Value, ∀ k, a'.tmps.getD k undef = u3 k := ⟨_, fun _ => rfl⟩
          simp only [hu] at hact
          clear hu
          subst hact
          have hol := hcm.len (by rw [HNL.out.1]; exact Nat.le_refl _)
          have hol2 : O.length ≤ 100001 := by rw [hol]; split <;> omega
          have HIN : Hid (xi < 4294967296 ∧ ∀ q ∈ xC, q.k < 256) := HW.out.2.2.2.2 _ (List.mem_of_getElem? HX.out)
          have HCS : Hid (∀ w', Own w0 w' T → Cs w' xa xC) := fun w' hw => (HW.out.1 w' hw).2.2 _ (List.mem_of_getElem? HX.out)
          have HTK : Hid (esz (M.take (j + 1)) = esz (M.take j) + (xC.length + 1)) := esz_tk HX.out
          have HO3 : Hid (Own w0 w3 _) := hO3
          clear hO3 hol HO2
          cases dn with
          | true =>
            have HE : Hid (evs O = insE (evs N) (xi, xC) ∧ ∀ y ∈ O, y = ⟨xi, xa, xc, xC⟩ ∨ y ∈ N) := hcm.fin1 (by rw [HNL.out.1]; exact Nat.le_refl _)
            clear hcm
            go_wp2
            refine ⟨⟨j + 1, O, a1, c1, rfl, by omega, ?_, ?_, HO3.out.two.tail.two.tail⟩, by simp [intOf]; omega⟩
            · rw [HTK.out, ← Nat.add_assoc]
              exact HU.out.1.ins HE.out.2 HE.out.1 HIN.out HCS.out
            · rw [← HU.out.2, goCome_is HCX.out HNO.out, HE.out.1]
          | false =>
            have HE : Hid (evs (O ++ [⟨xi, xa, xc, xC⟩]) = insE (evs N) (xi, xC) ∧ (∀ y ∈ O ++ [⟨xi, xa, xc, xC⟩], y = ⟨xi, xa, xc, xC⟩ ∨ y ∈ N) ∧ O.length = N.length) := hcm.fin0 (by rw [HNL.out.1]; exact Nat.le_refl _)
            have q0 := HO3.out.two.cell 0
            have q1 := HO3.out.two.cell 1
            simp only [List.getElem?_toArray, List.getElem?_cons_zero, List.getElem?_cons_succ] at q0 q1
            clear hcm
            go_wp2_with (at_builtin; refine append1_own rfl _ _ 22 rfl 43 iE _ 2 32 Tryd.underlying22 hiE hE0 hE1 hE2 rfl (by decide) _ _ _ rfl HO3.out _ #[.int .u32 (xi : Int), .slice xa xl xc] (by simp) rfl rfl (by intro u hu; simp at hu; rcases hu with rfl | rfl <;> rfl) (by unfold maxLen; omega) (by omega) ?_)
            intro g4 c4 w4 hO4 hsz
            have HLN : Hid ((O ++ [(⟨xi, xa, xc, xC⟩ : EnE)]).length = O.length + 1) := by show _ = _; rw [List.length_append]; rfl
            have H4 : Hid (Own w0 w4 (Row 43 2 (.slice (some ⟨g4, 0, none⟩) (O.length + 1) c4) (O.length + 1) (cat EnE.cs (O ++ [⟨xi, xa, xc, xC⟩])) :: (X ++ T))) := by
              show Own _ _ _
              rw [ecat_snoc]
              simp only [HNL.out.2]
              exact hO4.two.tail.two.tail
            clear hO4 hsz q0 q1
            go_wp2
            refine ⟨⟨j + 1, O ++ [⟨xi, xa, xc, xC⟩], some ⟨g4, 0, none⟩, c4, by rw [HLN.out]; exact rfl, by omega, ?_, ?_, by rw [HLN.out]; exact H4.out⟩, by simp [intOf]; omega⟩
            · rw [HTK.out, ← Nat.add_assoc]
              exact HU.out.1.ins HE.out.2.1 HE.out.1 HIN.out HCS.out
            · rw [← HU.out.2, goCome_is HCX.out HNO.out, HE.out.1]
      · have hr' : 0 ≤ r := by omega
        obtain ⟨i, y, rfl, hy, hyi, hfe⟩ := find_is HW.out.2.2.1 hfr hr
        have HBAD : Hid (goCome (evs Wl) (evs N0) (evs M) = none) := by show _ = _; rw [← HU.out.2]; exact goCome_bad HCX.out hfe
        have HO2 : Hid (Own w0 w2 T) := hO2.tail.tail.dropA
        clear hfr hO2 hy hyi hfe
        go_wp2
        exact HR.out _ _ ⟨rfl, HBAD.out, HO2.out⟩
    · have hjn : j = ml := by omega
      subst hjn
      have hlt' : ¬ (j : Int) < (j : Int) := by omega
      have HF : Hid (goCome (evs Wl) (evs N0) (evs M) = some (evs N)) := by show _ = _; rw [← hgo, goCome_end (by rw [evs_len, HW.out.2.2.2.1]; exact Nat.le_refl _)]
      have HO : Hid (Own w0 wr _) := hO
      have HNW : Hid (NowI w0 X T N (B + esz M)) := by
        have := hNI
        rw [List.take_of_length_le (by rw [HW.out.2.2.2.1]; exact Nat.le_refl _)] at this
        exact this
      clear hO hNI hgo
      go_wp2
      exact Met.intro (HJ.out _ _ ⟨N, a, c, rfl, HNW.out, HF.out, HO.out⟩)
end Go.Proofs.YtkjanpjlpieaoaaDoor

