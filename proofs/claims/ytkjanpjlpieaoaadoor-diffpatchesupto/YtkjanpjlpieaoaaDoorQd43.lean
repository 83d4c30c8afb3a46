/-
  The document's Patch: one that comes is laid in.
-/
import Derived.Test.YtkjanpjlpieaoaaDoorQd17
namespace Go.Proofs.YtkjanpjlpieaoaaDoor
open Go.ChangeShapes Go.WideShapes Go.ChangeAt Go.RowKit
set_option linter.unusedVariables false
set_option maxRecDepth 100000

theorem ecat_snoc (O : List EnE) (e : EnE) : cat EnE.cs (O ++ [e]) = cat EnE.cs O ++ [.int .u32 (e.id : Int), .slice e.ao e.C.length e.cap] := by rw [cat_append]; simp [cat, EnE.cs]
set_option maxHeartbeats 8000000 in
theorem gp_lay (w0 W : World) (Z : List Thing) (v0 v3 v136 v137 v138 : Value) (a : Option Addr) (n c b21 ei el ec : Nat) (ea : Option Addr) (eC : List Cp) (N : List EnE) (hn : n ≤ 100000) (HN : Hid (N.length = n ∧ eC.length = el)) (H : Hid (Own w0 W (Cells b21 #[.int .u32 (ei : Int), .slice ea el ec] 43 :: Row 43 2 (.slice a n c) n (cat EnE.cs N) :: Z))) (J K' : Act → World → Prop) (Q' : Exit → Act → World → Prop) (HJ : Hid (∀ a' wc, (∃ (O : List EnE) (dn : Bool) (a1 : Option Addr) (c1 : Nat), a' = { tmps := #[v0, a'.tmps.getD 1 undef, a'.tmps.getD 2 undef, v3, a'.tmps.getD 4 undef, a'.tmps.getD 5 undef, a'.tmps.getD 6 undef, .slice a n c, a'.tmps.getD 8 undef, a'.tmps.getD 9 undef, a'.tmps.getD 10 undef, a'.tmps.getD 11 undef, a'.tmps.getD 12 undef, a'.tmps.getD 13 undef, a'.tmps.getD 14 undef, a'.tmps.getD 15 undef, a'.tmps.getD 16 undef, a'.tmps.getD 17 undef, a'.tmps.getD 18 undef, a'.tmps.getD 19 undef, a'.tmps.getD 20 undef, .pointer (some ⟨b21, 0, none⟩), .slice a1 O.length c1, .bool dn, a'.tmps.getD 24 undef, a'.tmps.getD 25 undef, a'.tmps.getD 26 undef, a'.tmps.getD 27 undef, a'.tmps.getD 28 undef, a'.tmps.getD 29 undef, a'.tmps.getD 30 undef, a'.tmps.getD 31 undef, a'.tmps.getD 32 undef, a'.tmps.getD 33 undef, a'.tmps.getD 34 undef, a'.tmps.getD 35 undef, a'.tmps.getD 36 undef, a'.tmps.getD 37 undef, a'.tmps.getD 38 undef, a'.tmps.getD 39 undef, a'.tmps.getD 40 undef, a'.tmps.getD 41 undef, a'.tmps.getD 42 undef, a'.tmps.getD 43 undef, a'.tmps.getD 44 undef, a'.tmps.getD 45 undef, a'.tmps.getD 46 undef, a'.tmps.getD 47 undef, a'.tmps.getD 48 undef, a'.tmps.getD 49 undef, a'.tmps.getD 50 undef, a'.tmps.getD 51 undef, a'.tmps.getD 52 undef, a'.tmps.getD 53 undef, a'.tmps.getD 54 undef, a'.tmps.getD 55 undef, a'.tmps.getD 56 undef, a'.tmps.getD 57 undef, a'.tmps.getD 58 undef, a'.tmps.getD 59 undef, a'.tmps.getD 60 undef, a'.tmps.getD 61 undef, a'.tmps.getD 62 undef, a'.tmps.getD 63 undef, a'.tmps.getD 64 undef, a'.tmps.getD 65 undef, a'.tmps.getD 66 undef, a'.tmps.getD 67 undef, a'.tmps.getD 68 undef, a'.tmps.getD 69 undef, a'.tmps.getD 70 undef, a'.tmps.getD 71 undef, a'.tmps.getD 72 undef, a'.tmps.getD 73 undef, a'.tmps.getD 74 undef, a'.tmps.getD 75 undef, a'.tmps.getD 76 undef, a'.tmps.getD 77 undef, a'.tmps.getD 78 undef, a'.tmps.getD 79 undef, a'.tmps.getD 80 undef, a'.tmps.getD 81 undef, a'.tmps.getD 82 undef, a'.tmps.getD 83 undef, a'.tmps.getD 84 undef, a'.tmps.getD 85 undef, a'.tmps.getD 86 undef, a'.tmps.getD 87 undef, a'.tmps.getD 88 undef, a'.tmps.getD 89 undef, a'.tmps.getD 90 undef, a'.tmps.getD 91 undef, a'.tmps.getD 92 undef, a'.tmps.getD 93 undef, a'.tmps.getD 94 undef, a'.tmps.getD 95 undef, a'.tmps.getD 96 undef, a'.tmps.getD 97 undef, a'.tmps.getD 98 undef, a'.tmps.getD 99 undef, a'.tmps.getD 100 undef, a'.tmps.getD 101 undef, a'.tmps.getD 102 undef, a'.tmps.getD 103 undef, a'.tmps.getD 104 undef, a'.tmps.getD 105 undef, a'.tmps.getD 106 undef, a'.tmps.getD 107 undef, a'.tmps.getD 108 undef, a'.tmps.getD 109 undef, a'.tmps.getD 110 undef, a'.tmps.getD 111 undef, a'.tmps.getD 112 undef, a'.tmps.getD 113 undef, a'.tmps.getD 114 undef, a'.tmps.getD 115 undef, a'.tmps.getD 116 undef, a'.tmps.getD 117 undef, a'.tmps.getD 118 undef, a'.tmps.getD 119 undef, a'.tmps.getD 120 undef, a'.tmps.getD 121 undef, a'.tmps.getD 122 undef, a'.tmps.getD 123 undef, a'.tmps.getD 124 undef, a'.tmps.getD 125 undef, a'.tmps.getD 126 undef, a'.tmps.getD 127 undef, a'.tmps.getD 128 undef, a'.tmps.getD 129 undef, a'.tmps.getD 130 undef, a'.tmps.getD 131 undef, a'.tmps.getD 132 undef, a'.tmps.getD 133 undef, a'.tmps.getD 134 undef, a'.tmps.getD 135 undef, v136, v137, v138, a'.tmps.getD 139 undef, a'.tmps.getD 140 undef, a'.tmps.getD 141 undef, a'.tmps.getD 142 undef, a'.tmps.getD 143 undef, a'.tmps.getD 144 undef, a'.tmps.getD 145 undef, a'.tmps.getD 146 undef, a'.tmps.getD 147 undef, a'.tmps.getD 148 undef, a'.tmps.getD 149 undef, a'.tmps.getD 150 undef, a'.tmps.getD 151 undef, a'.tmps.getD 152 undef, a'.tmps.getD 153 undef, a'.tmps.getD 154 undef, a'.tmps.getD 155 undef, a'.tmps.getD 156 undef, a'.tmps.getD 157 undef, a'.tmps.getD 158 undef, a'.tmps.getD 159 undef, a'.tmps.getD 160 undef, a'.tmps.getD 161 undef, a'.tmps.getD 162 undef, a'.tmps.getD 163 undef, a'.tmps.getD 164 undef, a'.tmps.getD 165 undef, a'.tmps.getD 166 undef, a'.tmps.getD 167 undef, a'.tmps.getD 168 undef, a'.tmps.getD 169 undef, a'.tmps.getD 170 undef, a'.tmps.getD 171 undef, a'.tmps.getD 172 undef, a'.tmps.getD 173 undef, a'.tmps.getD 174 undef, a'.tmps.getD 175 undef, a'.tmps.getD 176 undef, a'.tmps.getD 177 undef, a'.tmps.getD 178 undef, a'.tmps.getD 179 undef, a'.tmps.getD 180 undef, a'.tmps.getD 181 undef, a'.tmps.getD 182 undef, a'.tmps.getD 183 undef, a'.tmps.getD 184 undef, a'.tmps.getD 185 undef, a'.tmps.getD 186 undef, a'.tmps.getD 187 undef, a'.tmps.getD 188 undef, a'.tmps.getD 189 undef, a'.tmps.getD 190 undef, a'.tmps.getD 191 undef, a'.tmps.getD 192 undef, a'.tmps.getD 193 undef, a'.tmps.getD 194 undef], defers := [] } ∧ CmI ⟨ei, ea, ec, eC⟩ N n O dn ∧ Own w0 wc (Row 43 2 (.slice a1 O.length c1) O.length (cat EnE.cs O) :: Cells b21 #[.int .u32 (ei : Int), .slice ea el ec] 43 :: Row 43 2 (.slice a n c) n (cat EnE.cs N) :: Z)) → J a' wc)) (hK' : ∀ a' w', Met J a' w' → K' a' w') (a' : Act) (hact : a' = { tmps := #[v0, a'.tmps.getD 1 undef, a'.tmps.getD 2 undef, v3, a'.tmps.getD 4 undef, a'.tmps.getD 5 undef, a'.tmps.getD 6 undef, .slice a n c, a'.tmps.getD 8 undef, a'.tmps.getD 9 undef, a'.tmps.getD 10 undef, a'.tmps.getD 11 undef, a'.tmps.getD 12 undef, a'.tmps.getD 13 undef, a'.tmps.getD 14 undef, a'.tmps.getD 15 undef, a'.tmps.getD 16 undef, a'.tmps.getD 17 undef, a'.tmps.getD 18 undef, a'.tmps.getD 19 undef, a'.tmps.getD 20 undef, .pointer (some ⟨b21, 0, none⟩), .slice none 0 0, .bool false, a'.tmps.getD 24 undef, a'.tmps.getD 25 undef, a'.tmps.getD 26 undef, a'.tmps.getD 27 undef, a'.tmps.getD 28 undef, a'.tmps.getD 29 undef, a'.tmps.getD 30 undef, a'.tmps.getD 31 undef, a'.tmps.getD 32 undef, a'.tmps.getD 33 undef, a'.tmps.getD 34 undef, a'.tmps.getD 35 undef, a'.tmps.getD 36 undef, a'.tmps.getD 37 undef, a'.tmps.getD 38 undef, a'.tmps.getD 39 undef, a'.tmps.getD 40 undef, a'.tmps.getD 41 undef, a'.tmps.getD 42 undef, a'.tmps.getD 43 undef, a'.tmps.getD 44 undef, a'.tmps.getD 45 undef, a'.tmps.getD 46 undef, a'.tmps.getD 47 undef, a'.tmps.getD 48 undef, a'.tmps.getD 49 undef, a'.tmps.getD 50 undef, a'.tmps.getD 51 undef, a'.tmps.getD 52 undef, a'.tmps.getD 53 undef, a'.tmps.getD 54 undef, a'.tmps.getD 55 undef, a'.tmps.getD 56 undef, a'.tmps.getD 57 undef, a'.tmps.getD 58 undef, a'.tmps.getD 59 undef, a'.tmps.getD 60 undef, a'.tmps.getD 61 undef, a'.tmps.getD 62 undef, a'.tmps.getD 63 undef, a'.tmps.getD 64 undef, a'.tmps.getD 65 undef, a'.tmps.getD 66 undef, a'.tmps.getD 67 undef, a'.tmps.getD 68 undef, a'.tmps.getD 69 undef, a'.tmps.getD 70 undef, a'.tmps.getD 71 undef, a'.tmps.getD 72 undef, a'.tmps.getD 73 undef, a'.tmps.getD 74 undef, a'.tmps.getD 75 undef, a'.tmps.getD 76 undef, a'.tmps.getD 77 undef, a'.tmps.getD 78 undef, a'.tmps.getD 79 undef, a'.tmps.getD 80 undef, a'.tmps.getD 81 undef, a'.tmps.getD 82 undef, a'.tmps.getD 83 undef, a'.tmps.getD 84 undef, a'.tmps.getD 85 undef, a'.tmps.getD 86 undef, a'.tmps.getD 87 undef, a'.tmps.getD 88 undef, a'.tmps.getD 89 undef, a'.tmps.getD 90 undef, a'.tmps.getD 91 undef, a'.tmps.getD 92 undef, a'.tmps.getD 93 undef, a'.tmps.getD 94 undef, a'.tmps.getD 95 undef, a'.tmps.getD 96 undef, a'.tmps.getD 97 undef, a'.tmps.getD 98 undef, a'.tmps.getD 99 undef, a'.tmps.getD 100 undef, a'.tmps.getD 101 undef, a'.tmps.getD 102 undef, a'.tmps.getD 103 undef, a'.tmps.getD 104 undef, a'.tmps.getD 105 undef, a'.tmps.getD 106 undef, a'.tmps.getD 107 undef, a'.tmps.getD 108 undef, a'.tmps.getD 109 undef, a'.tmps.getD 110 undef, a'.tmps.getD 111 undef, a'.tmps.getD 112 undef, a'.tmps.getD 113 undef, a'.tmps.getD 114 undef, a'.tmps.getD 115 undef, a'.tmps.getD 116 undef, a'.tmps.getD 117 undef, a'.tmps.getD 118 undef, a'.tmps.getD 119 undef, a'.tmps.getD 120 undef, a'.tmps.getD 121 undef, a'.tmps.getD 122 undef, a'.tmps.getD 123 undef, a'.tmps.getD 124 undef, a'.tmps.getD 125 undef, a'.tmps.getD 126 undef, a'.tmps.getD 127 undef, a'.tmps.getD 128 undef, a'.tmps.getD 129 undef, a'.tmps.getD 130 undef, a'.tmps.getD 131 undef, a'.tmps.getD 132 undef, a'.tmps.getD 133 undef, a'.tmps.getD 134 undef, a'.tmps.getD 135 undef, v136, v137, v138, a'.tmps.getD 139 undef, a'.tmps.getD 140 undef, a'.tmps.getD 141 undef, a'.tmps.getD 142 undef, a'.tmps.getD 143 undef, a'.tmps.getD 144 undef, a'.tmps.getD 145 undef, a'.tmps.getD 146 undef, .slice a n c, .int .i64 (n : Int), .int .i64 0, a'.tmps.getD 150 undef, a'.tmps.getD 151 undef, a'.tmps.getD 152 undef, a'.tmps.getD 153 undef, a'.tmps.getD 154 undef, a'.tmps.getD 155 undef, a'.tmps.getD 156 undef, a'.tmps.getD 157 undef, a'.tmps.getD 158 undef, a'.tmps.getD 159 undef, a'.tmps.getD 160 undef, a'.tmps.getD 161 undef, a'.tmps.getD 162 undef, a'.tmps.getD 163 undef, a'.tmps.getD 164 undef, a'.tmps.getD 165 undef, a'.tmps.getD 166 undef, a'.tmps.getD 167 undef, a'.tmps.getD 168 undef, a'.tmps.getD 169 undef, a'.tmps.getD 170 undef, a'.tmps.getD 171 undef, a'.tmps.getD 172 undef, a'.tmps.getD 173 undef, a'.tmps.getD 174 undef, a'.tmps.getD 175 undef, a'.tmps.getD 176 undef, a'.tmps.getD 177 undef, a'.tmps.getD 178 undef, a'.tmps.getD 179 undef, a'.tmps.getD 180 undef, a'.tmps.getD 181 undef, a'.tmps.getD 182 undef, a'.tmps.getD 183 undef, a'.tmps.getD 184 undef, a'.tmps.getD 185 undef, a'.tmps.getD 186 undef, a'.tmps.getD 187 undef, a'.tmps.getD 188 undef, a'.tmps.getD 189 undef, a'.tmps.getD 190 undef, a'.tmps.getD 191 undef, a'.tmps.getD 192 undef, a'.tmps.getD 193 undef, a'.tmps.getD 194 undef], defers := [] }) : (csnd (cfst (csnd (csnd (csnd (csnd (cinn (cfst (csnd (csnd (cinn (cinn (csnd (cfst (csnd (csnd (csnd (csnd (csnd ((Tryd.f10.body).getD .skip)))))))))))))))))))).wp Tryd.prog (Exit.then K' Q') a' W := by
  obtain ⟨iE, hiE, hE0, hE1, hE2⟩ := info3w Tryd.infoEnt
  obtain ⟨u, hu⟩ : ∃ u : Nat → Value, ∀ k, a'.tmps.getD k undef = u k := ⟨_, fun _ => rfl⟩
  simp only [hu] at hact
  clear hu
  subst hact
  refine wp_qP ?_
  dsimp only [cfst, csnd, cinn, Tryd.f10, Option.getD]
  go_wp2
  refine wp_loop (fun a' wr => ∃ (j m : Nat) (O : List EnE) (dn : Bool) (a1 : Option Addr) (c1 : Nat), a' = { tmps := #[v0, a'.tmps.getD 1 undef, a'.tmps.getD 2 undef, v3, a'.tmps.getD 4 undef, a'.tmps.getD 5 undef, a'.tmps.getD 6 undef, .slice a n c, a'.tmps.getD 8 undef, a'.tmps.getD 9 undef, a'.tmps.getD 10 undef, a'.tmps.getD 11 undef, a'.tmps.getD 12 undef, a'.tmps.getD 13 undef, a'.tmps.getD 14 undef, a'.tmps.getD 15 undef, a'.tmps.getD 16 undef, a'.tmps.getD 17 undef, a'.tmps.getD 18 undef, a'.tmps.getD 19 undef, a'.tmps.getD 20 undef, .pointer (some ⟨b21, 0, none⟩), .slice a1 m c1, .bool dn, a'.tmps.getD 24 undef, a'.tmps.getD 25 undef, a'.tmps.getD 26 undef, a'.tmps.getD 27 undef, a'.tmps.getD 28 undef, a'.tmps.getD 29 undef, a'.tmps.getD 30 undef, a'.tmps.getD 31 undef, a'.tmps.getD 32 undef, a'.tmps.getD 33 undef, a'.tmps.getD 34 undef, a'.tmps.getD 35 undef, a'.tmps.getD 36 undef, a'.tmps.getD 37 undef, a'.tmps.getD 38 undef, a'.tmps.getD 39 undef, a'.tmps.getD 40 undef, a'.tmps.getD 41 undef, a'.tmps.getD 42 undef, a'.tmps.getD 43 undef, a'.tmps.getD 44 undef, a'.tmps.getD 45 undef, a'.tmps.getD 46 undef, a'.tmps.getD 47 undef, a'.tmps.getD 48 undef, a'.tmps.getD 49 undef, a'.tmps.getD 50 undef, a'.tmps.getD 51 undef, a'.tmps.getD 52 undef, a'.tmps.getD 53 undef, a'.tmps.getD 54 undef, a'.tmps.getD 55 undef, a'.tmps.getD 56 undef, a'.tmps.getD 57 undef, a'.tmps.getD 58 undef, a'.tmps.getD 59 undef, a'.tmps.getD 60 undef, a'.tmps.getD 61 undef, a'.tmps.getD 62 undef, a'.tmps.getD 63 undef, a'.tmps.getD 64 undef, a'.tmps.getD 65 undef, a'.tmps.getD 66 undef, a'.tmps.getD 67 undef, a'.tmps.getD 68 undef, a'.tmps.getD 69 undef, a'.tmps.getD 70 undef, a'.tmps.getD 71 undef, a'.tmps.getD 72 undef, a'.tmps.getD 73 undef, a'.tmps.getD 74 undef, a'.tmps.getD 75 undef, a'.tmps.getD 76 undef, a'.tmps.getD 77 undef, a'.tmps.getD 78 undef, a'.tmps.getD 79 undef, a'.tmps.getD 80 undef, a'.tmps.getD 81 undef, a'.tmps.getD 82 undef, a'.tmps.getD 83 undef, a'.tmps.getD 84 undef, a'.tmps.getD 85 undef, a'.tmps.getD 86 undef, a'.tmps.getD 87 undef, a'.tmps.getD 88 undef, a'.tmps.getD 89 undef, a'.tmps.getD 90 undef, a'.tmps.getD 91 undef, a'.tmps.getD 92 undef, a'.tmps.getD 93 undef, a'.tmps.getD 94 undef, a'.tmps.getD 95 undef, a'.tmps.getD 96 undef, a'.tmps.getD 97 undef, a'.tmps.getD 98 undef, a'.tmps.getD 99 undef, a'.tmps.getD 100 undef, a'.tmps.getD 101 undef, a'.tmps.getD 102 undef, a'.tmps.getD 103 undef, a'.tmps.getD 104 undef, a'.tmps.getD 105 undef, a'.tmps.getD 106 undef, a'.tmps.getD 107 undef, a'.tmps.getD 108 undef, a'.tmps.getD 109 undef, a'.tmps.getD 110 undef, a'.tmps.getD 111 undef, a'.tmps.getD 112 undef, a'.tmps.getD 113 undef, a'.tmps.getD 114 undef, a'.tmps.getD 115 undef, a'.tmps.getD 116 undef, a'.tmps.getD 117 undef, a'.tmps.getD 118 undef, a'.tmps.getD 119 undef, a'.tmps.getD 120 undef, a'.tmps.getD 121 undef, a'.tmps.getD 122 undef, a'.tmps.getD 123 undef, a'.tmps.getD 124 undef, a'.tmps.getD 125 undef, a'.tmps.getD 126 undef, a'.tmps.getD 127 undef, a'.tmps.getD 128 undef, a'.tmps.getD 129 undef, a'.tmps.getD 130 undef, a'.tmps.getD 131 undef, a'.tmps.getD 132 undef, a'.tmps.getD 133 undef, a'.tmps.getD 134 undef, a'.tmps.getD 135 undef, v136, v137, v138, a'.tmps.getD 139 undef, a'.tmps.getD 140 undef, a'.tmps.getD 141 undef, a'.tmps.getD 142 undef, a'.tmps.getD 143 undef, a'.tmps.getD 144 undef, a'.tmps.getD 145 undef, a'.tmps.getD 146 undef, .slice a n c, .int .i64 (n : Int), .int .i64 (j : Int), a'.tmps.getD 150 undef, a'.tmps.getD 151 undef, a'.tmps.getD 152 undef, a'.tmps.getD 153 undef, a'.tmps.getD 154 undef, a'.tmps.getD 155 undef, a'.tmps.getD 156 undef, a'.tmps.getD 157 undef, a'.tmps.getD 158 undef, a'.tmps.getD 159 undef, a'.tmps.getD 160 undef, a'.tmps.getD 161 undef, a'.tmps.getD 162 undef, a'.tmps.getD 163 undef, a'.tmps.getD 164 undef, a'.tmps.getD 165 undef, a'.tmps.getD 166 undef, a'.tmps.getD 167 undef, a'.tmps.getD 168 undef, a'.tmps.getD 169 undef, a'.tmps.getD 170 undef, a'.tmps.getD 171 undef, a'.tmps.getD 172 undef, a'.tmps.getD 173 undef, a'.tmps.getD 174 undef, a'.tmps.getD 175 undef, a'.tmps.getD 176 undef, a'.tmps.getD 177 undef, a'.tmps.getD 178 undef, a'.tmps.getD 179 undef, a'.tmps.getD 180 undef, a'.tmps.getD 181 undef, a'.tmps.getD 182 undef, a'.tmps.getD 183 undef, a'.tmps.getD 184 undef, a'.tmps.getD 185 undef, a'.tmps.getD 186 undef, a'.tmps.getD 187 undef, a'.tmps.getD 188 undef, a'.tmps.getD 189 undef, a'.tmps.getD 190 undef, a'.tmps.getD 191 undef, a'.tmps.getD 192 undef, a'.tmps.getD 193 undef, a'.tmps.getD 194 undef], defers := [] } ∧ j ≤ n ∧ O.length = m ∧ CmI ⟨ei, ea, ec, eC⟩ N j O dn ∧ Own w0 wr (Row 43 2 (.slice a1 m c1) m (cat EnE.cs O) :: Cells b21 #[.int .u32 (ei : Int), .slice ea el ec] 43 :: Row 43 2 (.slice a n c) n (cat EnE.cs N) :: Z)) (fun a' _ => n - (intOf (a'.tmps.getD 149 undef)).toNat) ?_ ?_
  · exact ⟨0, 0, [], false, none, 0, rfl, Nat.zero_le _, rfl, .inl ⟨rfl, rfl, by simp⟩, H.out.nilRow _ _⟩
  · intro a' wr hI
    obtain ⟨j, m, O, dn, a1, c1, hact, hj, hm, hcm, hO⟩ := hI
    obtain ⟨u2, hu⟩ : ∃ u2 : Nat → Value, ∀ k, a'.tmps.getD k undef = u2 k := ⟨_, fun _ => rfl⟩
    simp only [hu] at hact
    clear hu
    subst hact
    have hol := hcm.len (by rw [HN.out.1]; exact hj)
    have hol2 : m ≤ 100001 := by rw [← hm, hol]; split <;> omega
    have HM : Hid (O.length = m) := hm
    have HCM : Hid (CmI ⟨ei, ea, ec, eC⟩ N j O dn) := hcm
    have HO : Hid (Own w0 wr _) := hO
    clear H hol hm
    by_cases hlt : j < n
    · have hlt' : (j : Int) < (n : Int) := by omega
      obtain ⟨x, hx⟩ : ∃ x, N[j]? = some x := ⟨_, List.getElem?_eq_getElem (by rw [HN.out.1]; exact hlt)⟩
      obtain ⟨g, cp, hv, _⟩ := row_shape hO.three.row (by omega)
      obtain ⟨hga, _, rfl⟩ := Value.slice.inj hv
      subst hga
      have y0 : wr.cell? ⟨g, j * 2, none⟩ = some (.int .u32 (x.id : Int)) := by
        rw [hO.three.row.cellAt _ (by omega)]
        exact cat_at EnE.cs 2 (fun _ => rfl) N j 0 x hx (by decide)
      have y1 : wr.cell? ⟨g, j * 2 + 1, none⟩ = some (.slice x.ao x.C.length x.cap) := by
        rw [hO.three.row.cellAt _ (by omega)]
        exact cat_at EnE.cs 2 (fun _ => rfl) N j 1 x hx (by decide)
      have HX : Hid (N[j]? = some x) := hx
      obtain ⟨xi, xa, xc, xC⟩ := x
      simp only at y0 y1
      obtain ⟨xl, hxl⟩ : ∃ xl, xl = xC.length := ⟨_, rfl⟩
      have HXL : Hid (xC.length = xl) := hxl.symm
      rw [← hxl] at y1
      have hA := hO.allocC #[.int .u32 (xi : Int), .slice xa xl xc] 43
      have q0 := hA.cell 0
      have q1 := hA.cell 1
      have q2 := hA.three.cell 0
      have q3 := hA.three.cell 1
      simp only [List.getElem?_toArray, List.getElem?_cons_zero, List.getElem?_cons_succ] at q0 q1 q2 q3
      have HA : Hid (Own w0 _ _) := hA.two
      clear hO hA hcm hx hxl HO
      cases dn with
      | true =>
        have HS : Hid (CmI ⟨ei, ea, ec, eC⟩ N (j + 1) (O ++ [⟨xi, xa, xc, xC⟩]) true) := HCM.out.on HX.out
        go_wp2_with (at_builtin; refine append1_own rfl _ _ 22 rfl 43 iE _ 2 32 Tryd.underlying22 hiE hE0 hE1 hE2 rfl (by decide) _ _ _ rfl HA.out _ #[.int .u32 (xi : Int), .slice xa xl xc] (by simp) rfl rfl (by intro u hu; simp at hu; rcases hu with rfl | rfl <;> rfl) (by unfold maxLen; omega) (by omega) ?_)
        intro g4 c4 w4 hO4 hsz
        have H4 : Hid (Own w0 w4 (Row 43 2 (.slice (some ⟨g4, 0, none⟩) (m + 1) c4) (m + 1) (cat EnE.cs (O ++ [⟨xi, xa, xc, xC⟩])) :: Cells b21 #[.int .u32 (ei : Int), .slice ea el ec] 43 :: Row 43 2 (.slice (some ⟨g, 0, none⟩) n c) n (cat EnE.cs N) :: Z)) := by
          show Own _ _ _
          rw [ecat_snoc]
          simp only [HXL.out]
          exact hO4.two.tail
        clear hO4 hsz q0 q1 q2 q3
        go_wp2
        exact ⟨⟨j + 1, m + 1, _, true, _, c4, rfl, by omega, by rw [List.length_append, HM.out]; rfl, HS.out, H4.out⟩, by simp [intOf]; omega⟩
      | false =>
        by_cases hge : ei ≤ xi
        · have hge' : (ei : Int) ≤ (xi : Int) := by omega
          have HS : Hid (CmI ⟨ei, ea, ec, eC⟩ N (j + 1) (O ++ [⟨ei, ea, ec, eC⟩] ++ [⟨xi, xa, xc, xC⟩]) true) := HCM.out.put HX.out hge
          go_wp2_with (at_builtin; refine append1_own rfl _ _ 22 rfl 43 iE _ 2 32 Tryd.underlying22 hiE hE0 hE1 hE2 rfl (by decide) _ _ _ rfl HA.out _ #[.int .u32 (ei : Int), .slice ea el ec] (by simp) rfl rfl (by intro u hu; simp at hu; rcases hu with rfl | rfl <;> rfl) (by unfold maxLen; omega) (by omega) ?_)
          intro g4 c4 w4 hO4 hsz
          have s0 := hO4.two.cell 0
          have s1 := hO4.two.cell 1
          simp only [List.getElem?_toArray, List.getElem?_cons_zero, List.getElem?_cons_succ] at s0 s1
          have H4 : Hid (Own w0 w4 (Row 43 2 (.slice (some ⟨g4, 0, none⟩) (m + 1) c4) (m + 1) (cat EnE.cs (O ++ [⟨ei, ea, ec, eC⟩])) :: Cells wr.heap.size #[.int .u32 (xi : Int), .slice xa xl xc] 43 :: Cells b21 #[.int .u32 (ei : Int), .slice ea el ec] 43 :: Row 43 2 (.slice (some ⟨g, 0, none⟩) n c) n (cat EnE.cs N) :: Z)) := by
            show Own _ _ _
            rw [ecat_snoc]
            simp only [HN.out.2]
            exact hO4
          clear hO4 hsz q0 q1 q2 q3
          go_wp2_with (at_builtin; refine append1_own rfl _ _ 22 rfl 43 iE _ 2 32 Tryd.underlying22 hiE hE0 hE1 hE2 rfl (by decide) _ _ _ rfl H4.out _ #[.int .u32 (xi : Int), .slice xa xl xc] (by simp) rfl rfl (by intro u hu; simp at hu; rcases hu with rfl | rfl <;> rfl) (by unfold maxLen; omega) (by omega) ?_)
          intro g5 c5 w5 hO5 hsz
          have H5 : Hid (Own w0 w5 (Row 43 2 (.slice (some ⟨g5, 0, none⟩) (m + 1 + 1) c5) (m + 1 + 1) (cat EnE.cs (O ++ [⟨ei, ea, ec, eC⟩] ++ [⟨xi, xa, xc, xC⟩])) :: Cells b21 #[.int .u32 (ei : Int), .slice ea el ec] 43 :: Row 43 2 (.slice (some ⟨g, 0, none⟩) n c) n (cat EnE.cs N) :: Z)) := by
            show Own _ _ _
            rw [ecat_snoc]
            simp only [HXL.out]
            exact hO5.two.tail
          clear hO5 hsz s0 s1 H4
          go_wp2
          exact ⟨⟨j + 1, m + 1 + 1, _, true, _, c5, rfl, by omega, by rw [List.length_append, List.length_append, HM.out]; rfl, HS.out, H5.out⟩, by simp [intOf]; omega⟩
        · have hge' : ¬ (ei : Int) ≤ (xi : Int) := by omega
          have HS : Hid (CmI ⟨ei, ea, ec, eC⟩ N (j + 1) (O ++ [⟨xi, xa, xc, xC⟩]) false) := HCM.out.by HX.out hge
          go_wp2_with (at_builtin; refine append1_own rfl _ _ 22 rfl 43 iE _ 2 32 Tryd.underlying22 hiE hE0 hE1 hE2 rfl (by decide) _ _ _ rfl HA.out _ #[.int .u32 (xi : Int), .slice xa xl xc] (by simp) rfl rfl (by intro u hu; simp at hu; rcases hu with rfl | rfl <;> rfl) (by unfold maxLen; omega) (by omega) ?_)
          intro g4 c4 w4 hO4 hsz
          have H4 : Hid (Own w0 w4 (Row 43 2 (.slice (some ⟨g4, 0, none⟩) (m + 1) c4) (m + 1) (cat EnE.cs (O ++ [⟨xi, xa, xc, xC⟩])) :: Cells b21 #[.int .u32 (ei : Int), .slice ea el ec] 43 :: Row 43 2 (.slice (some ⟨g, 0, none⟩) n c) n (cat EnE.cs N) :: Z)) := by
            show Own _ _ _
            rw [ecat_snoc]
            simp only [HXL.out]
            exact hO4.two.tail
          clear hO4 hsz q0 q1 q2 q3
          go_wp2
          exact ⟨⟨j + 1, m + 1, _, false, _, c4, rfl, by omega, by rw [List.length_append, HM.out]; rfl, HS.out, H4.out⟩, by simp [intOf]; omega⟩
    · have hjn : j = n := by omega
      subst hjn
      have hlt' : ¬ (j : Int) < (j : Int) := by omega
      clear hO hcm
      go_wp2
      obtain rfl : O.length = m := HM.out
      exact Met.intro (HJ.out _ _ ⟨O, dn, a1, c1, rfl, HCM.out, HO.out⟩)
end Go.Proofs.YtkjanpjlpieaoaaDoor

