/-
  NetPlays: a step of kind 6.
-/
import Derived.Test.YtiphkndahoageaaNtp
namespace Go.Proofs.Ytiphkndahoageaa
open Go.ChangeShapes Go.WideShapes Go.ChangeAt Go.RowKit
set_option linter.unusedVariables false

theorem set_id {α : Type} (l : List α) (i : Nat) (v : α) (h : l[i]? = some v) : l.set i v = l := by
  apply List.ext_getElem?
  intro j
  rw [List.getElem?_set]
  split
  · rename_i e; subst e; rw [h, if_pos (List.getElem?_eq_some_iff.1 h).1]
  · rfl
set_option maxHeartbeats 16000000 in
set_option maxRecDepth 100000 in
theorem np_c6 (w W : World) (b xb N B k len cap g o : Nat) (E F : List Gr) (qd : Nat) (qto qi qt : Int) (qa : Option Addr) (ql qc qp m : Nat) (qP R : List Nat) (hN2 : N ≤ 2048) (hm1 : m ≤ 40) (HT : Hid (Twin N E F)) (HK : Hid (NOk w ⟨qd, qto, qa, ql, qc, qP, qi, qt, qp⟩)) (HI : Hid (In w qa m qc R)) (H2 : Hid (Own w W [Cells B #[.int .u8 (qd : Int), .int .i64 qto, .slice qa ql qc, .int .i64 qi, .int .i64 qt, .int .u32 (qp : Int)] 36, BagT 61 b N E, BagT 48 xb N F])) (J K' : Act → World → Prop) (Q' : Exit → Act → World → Prop) (HJ : Hid (∀ a' wc, (∃ E' F', a' = { tmps := #[.int .i64 (N : Int), a'.tmps.getD 1 undef, a'.tmps.getD 2 undef, a'.tmps.getD 3 undef, a'.tmps.getD 4 undef, .pointer (some ⟨b, 0, none⟩), a'.tmps.getD 6 undef, .pointer (some ⟨xb, 0, none⟩), a'.tmps.getD 8 undef, .int .i64 (k : Int), .pointer (some ⟨B, 0, none⟩), a'.tmps.getD 11 undef, .bool true, a'.tmps.getD 13 undef, a'.tmps.getD 14 undef, a'.tmps.getD 15 undef, a'.tmps.getD 16 undef, a'.tmps.getD 17 undef, a'.tmps.getD 18 undef, a'.tmps.getD 19 undef, a'.tmps.getD 20 undef, a'.tmps.getD 21 undef, a'.tmps.getD 22 undef, a'.tmps.getD 23 undef, a'.tmps.getD 24 undef, a'.tmps.getD 25 undef, a'.tmps.getD 26 undef, a'.tmps.getD 27 undef, a'.tmps.getD 28 undef, a'.tmps.getD 29 undef, a'.tmps.getD 30 undef, a'.tmps.getD 31 undef, a'.tmps.getD 32 undef, a'.tmps.getD 33 undef, a'.tmps.getD 34 undef, a'.tmps.getD 35 undef, a'.tmps.getD 36 undef, a'.tmps.getD 37 undef, a'.tmps.getD 38 undef, a'.tmps.getD 39 undef, a'.tmps.getD 40 undef, a'.tmps.getD 41 undef, a'.tmps.getD 42 undef, a'.tmps.getD 43 undef, a'.tmps.getD 44 undef, a'.tmps.getD 45 undef, a'.tmps.getD 46 undef, a'.tmps.getD 47 undef, a'.tmps.getD 48 undef, a'.tmps.getD 49 undef, a'.tmps.getD 50 undef, a'.tmps.getD 51 undef, a'.tmps.getD 52 undef, a'.tmps.getD 53 undef, a'.tmps.getD 54 undef, a'.tmps.getD 55 undef, a'.tmps.getD 56 undef, a'.tmps.getD 57 undef, .slice (some ⟨g, o, none⟩) len cap, .int .i64 (len : Int), .int .i64 (k : Int), a'.tmps.getD 61 undef, a'.tmps.getD 62 undef, a'.tmps.getD 63 undef, a'.tmps.getD 64 undef, a'.tmps.getD 65 undef, a'.tmps.getD 66 undef, a'.tmps.getD 67 undef, a'.tmps.getD 68 undef, a'.tmps.getD 69 undef, a'.tmps.getD 70 undef, a'.tmps.getD 71 undef, a'.tmps.getD 72 undef, a'.tmps.getD 73 undef, a'.tmps.getD 74 undef, a'.tmps.getD 75 undef, a'.tmps.getD 76 undef, a'.tmps.getD 77 undef, a'.tmps.getD 78 undef, a'.tmps.getD 79 undef, a'.tmps.getD 80 undef, a'.tmps.getD 81 undef, a'.tmps.getD 82 undef, a'.tmps.getD 83 undef, a'.tmps.getD 84 undef, a'.tmps.getD 85 undef, a'.tmps.getD 86 undef, a'.tmps.getD 87 undef, a'.tmps.getD 88 undef, a'.tmps.getD 89 undef, a'.tmps.getD 90 undef, a'.tmps.getD 91 undef, a'.tmps.getD 92 undef, a'.tmps.getD 93 undef, a'.tmps.getD 94 undef, a'.tmps.getD 95 undef, a'.tmps.getD 96 undef, a'.tmps.getD 97 undef, a'.tmps.getD 98 undef, a'.tmps.getD 99 undef, a'.tmps.getD 100 undef, a'.tmps.getD 101 undef, a'.tmps.getD 102 undef, a'.tmps.getD 103 undef, a'.tmps.getD 104 undef, a'.tmps.getD 105 undef, a'.tmps.getD 106 undef, a'.tmps.getD 107 undef, a'.tmps.getD 108 undef, a'.tmps.getD 109 undef, a'.tmps.getD 110 undef, a'.tmps.getD 111 undef, a'.tmps.getD 112 undef, a'.tmps.getD 113 undef, a'.tmps.getD 114 undef, a'.tmps.getD 115 undef, a'.tmps.getD 116 undef, a'.tmps.getD 117 undef, a'.tmps.getD 118 undef, a'.tmps.getD 119 undef, a'.tmps.getD 120 undef, a'.tmps.getD 121 undef, a'.tmps.getD 122 undef, a'.tmps.getD 123 undef, a'.tmps.getD 124 undef, a'.tmps.getD 125 undef, a'.tmps.getD 126 undef, a'.tmps.getD 127 undef, a'.tmps.getD 128 undef, a'.tmps.getD 129 undef, a'.tmps.getD 130 undef, a'.tmps.getD 131 undef, a'.tmps.getD 132 undef, a'.tmps.getD 133 undef, a'.tmps.getD 134 undef, a'.tmps.getD 135 undef, a'.tmps.getD 136 undef, a'.tmps.getD 137 undef, a'.tmps.getD 138 undef, a'.tmps.getD 139 undef, a'.tmps.getD 140 undef, a'.tmps.getD 141 undef, a'.tmps.getD 142 undef, a'.tmps.getD 143 undef, a'.tmps.getD 144 undef, a'.tmps.getD 145 undef, a'.tmps.getD 146 undef, a'.tmps.getD 147 undef, a'.tmps.getD 148 undef, a'.tmps.getD 149 undef, a'.tmps.getD 150 undef, a'.tmps.getD 151 undef, a'.tmps.getD 152 undef, a'.tmps.getD 153 undef, a'.tmps.getD 154 undef, a'.tmps.getD 155 undef, a'.tmps.getD 156 undef, a'.tmps.getD 157 undef, a'.tmps.getD 158 undef, a'.tmps.getD 159 undef, a'.tmps.getD 160 undef, a'.tmps.getD 161 undef, a'.tmps.getD 162 undef, a'.tmps.getD 163 undef, a'.tmps.getD 164 undef, a'.tmps.getD 165 undef, a'.tmps.getD 166 undef, a'.tmps.getD 167 undef, a'.tmps.getD 168 undef, a'.tmps.getD 169 undef, a'.tmps.getD 170 undef, a'.tmps.getD 171 undef, a'.tmps.getD 172 undef, a'.tmps.getD 173 undef, a'.tmps.getD 174 undef, a'.tmps.getD 175 undef, a'.tmps.getD 176 undef, a'.tmps.getD 177 undef, a'.tmps.getD 178 undef, a'.tmps.getD 179 undef, a'.tmps.getD 180 undef, a'.tmps.getD 181 undef, a'.tmps.getD 182 undef, a'.tmps.getD 183 undef, a'.tmps.getD 184 undef, a'.tmps.getD 185 undef, a'.tmps.getD 186 undef, a'.tmps.getD 187 undef, a'.tmps.getD 188 undef, a'.tmps.getD 189 undef, a'.tmps.getD 190 undef, a'.tmps.getD 191 undef, a'.tmps.getD 192 undef, a'.tmps.getD 193 undef, a'.tmps.getD 194 undef, a'.tmps.getD 195 undef, a'.tmps.getD 196 undef, a'.tmps.getD 197 undef, a'.tmps.getD 198 undef, a'.tmps.getD 199 undef, a'.tmps.getD 200 undef, a'.tmps.getD 201 undef, a'.tmps.getD 202 undef, a'.tmps.getD 203 undef, a'.tmps.getD 204 undef, a'.tmps.getD 205 undef, a'.tmps.getD 206 undef, a'.tmps.getD 207 undef, a'.tmps.getD 208 undef, a'.tmps.getD 209 undef, a'.tmps.getD 210 undef, a'.tmps.getD 211 undef, a'.tmps.getD 212 undef, a'.tmps.getD 213 undef, a'.tmps.getD 214 undef, a'.tmps.getD 215 undef, a'.tmps.getD 216 undef, a'.tmps.getD 217 undef, a'.tmps.getD 218 undef, a'.tmps.getD 219 undef, a'.tmps.getD 220 undef, a'.tmps.getD 221 undef, a'.tmps.getD 222 undef, a'.tmps.getD 223 undef, a'.tmps.getD 224 undef, a'.tmps.getD 225 undef, a'.tmps.getD 226 undef, a'.tmps.getD 227 undef, a'.tmps.getD 228 undef, a'.tmps.getD 229 undef, a'.tmps.getD 230 undef, a'.tmps.getD 231 undef, a'.tmps.getD 232 undef, a'.tmps.getD 233 undef, a'.tmps.getD 234 undef, a'.tmps.getD 235 undef, a'.tmps.getD 236 undef, a'.tmps.getD 237 undef, a'.tmps.getD 238 undef, a'.tmps.getD 239 undef, a'.tmps.getD 240 undef, a'.tmps.getD 241 undef, a'.tmps.getD 242 undef, a'.tmps.getD 243 undef, a'.tmps.getD 244 undef, a'.tmps.getD 245 undef, a'.tmps.getD 246 undef, a'.tmps.getD 247 undef, a'.tmps.getD 248 undef, a'.tmps.getD 249 undef, a'.tmps.getD 250 undef, a'.tmps.getD 251 undef, a'.tmps.getD 252 undef, a'.tmps.getD 253 undef, a'.tmps.getD 254 undef, a'.tmps.getD 255 undef, a'.tmps.getD 256 undef, a'.tmps.getD 257 undef, a'.tmps.getD 258 undef, a'.tmps.getD 259 undef, a'.tmps.getD 260 undef, a'.tmps.getD 261 undef, a'.tmps.getD 262 undef, a'.tmps.getD 263 undef, a'.tmps.getD 264 undef, a'.tmps.getD 265 undef, a'.tmps.getD 266 undef, a'.tmps.getD 267 undef, a'.tmps.getD 268 undef, a'.tmps.getD 269 undef, a'.tmps.getD 270 undef, a'.tmps.getD 271 undef, a'.tmps.getD 272 undef, a'.tmps.getD 273 undef, a'.tmps.getD 274 undef, a'.tmps.getD 275 undef, a'.tmps.getD 276 undef, a'.tmps.getD 277 undef, a'.tmps.getD 278 undef, a'.tmps.getD 279 undef, a'.tmps.getD 280 undef, a'.tmps.getD 281 undef, a'.tmps.getD 282 undef, a'.tmps.getD 283 undef, a'.tmps.getD 284 undef, a'.tmps.getD 285 undef, a'.tmps.getD 286 undef, a'.tmps.getD 287 undef, a'.tmps.getD 288 undef, a'.tmps.getD 289 undef, a'.tmps.getD 290 undef, a'.tmps.getD 291 undef, a'.tmps.getD 292 undef, a'.tmps.getD 293 undef, a'.tmps.getD 294 undef, a'.tmps.getD 295 undef, a'.tmps.getD 296 undef, a'.tmps.getD 297 undef, a'.tmps.getD 298 undef, a'.tmps.getD 299 undef, a'.tmps.getD 300 undef, a'.tmps.getD 301 undef, a'.tmps.getD 302 undef, a'.tmps.getD 303 undef, a'.tmps.getD 304 undef, a'.tmps.getD 305 undef, a'.tmps.getD 306 undef, a'.tmps.getD 307 undef, a'.tmps.getD 308 undef, a'.tmps.getD 309 undef, a'.tmps.getD 310 undef, a'.tmps.getD 311 undef, a'.tmps.getD 312 undef, a'.tmps.getD 313 undef, a'.tmps.getD 314 undef, a'.tmps.getD 315 undef, a'.tmps.getD 316 undef, a'.tmps.getD 317 undef, a'.tmps.getD 318 undef, a'.tmps.getD 319 undef, a'.tmps.getD 320 undef, a'.tmps.getD 321 undef, a'.tmps.getD 322 undef, a'.tmps.getD 323 undef, a'.tmps.getD 324 undef, a'.tmps.getD 325 undef, a'.tmps.getD 326 undef, a'.tmps.getD 327 undef, a'.tmps.getD 328 undef, a'.tmps.getD 329 undef, a'.tmps.getD 330 undef, a'.tmps.getD 331 undef, a'.tmps.getD 332 undef, a'.tmps.getD 333 undef, a'.tmps.getD 334 undef, a'.tmps.getD 335 undef, a'.tmps.getD 336 undef, a'.tmps.getD 337 undef], defers := [] } ∧ Twin N E' F' ∧ Own w wc [Cells B #[.int .u8 (qd : Int), .int .i64 qto, .slice qa ql qc, .int .i64 qi, .int .i64 qt, .int .u32 (qp : Int)] 36, BagT 61 b N E', BagT 48 xb N F']) → J a' wc)) (hK' : ∀ a' w', Met J a' w' → K' a' w') (a' : Act) (hact : a' = { tmps := #[.int .i64 (N : Int), a'.tmps.getD 1 undef, a'.tmps.getD 2 undef, a'.tmps.getD 3 undef, a'.tmps.getD 4 undef, .pointer (some ⟨b, 0, none⟩), a'.tmps.getD 6 undef, .pointer (some ⟨xb, 0, none⟩), a'.tmps.getD 8 undef, .int .i64 (k : Int), .pointer (some ⟨B, 0, none⟩), .slice qa m qc, .bool true, a'.tmps.getD 13 undef, a'.tmps.getD 14 undef, a'.tmps.getD 15 undef, a'.tmps.getD 16 undef, a'.tmps.getD 17 undef, a'.tmps.getD 18 undef, a'.tmps.getD 19 undef, a'.tmps.getD 20 undef, a'.tmps.getD 21 undef, a'.tmps.getD 22 undef, a'.tmps.getD 23 undef, a'.tmps.getD 24 undef, a'.tmps.getD 25 undef, a'.tmps.getD 26 undef, a'.tmps.getD 27 undef, a'.tmps.getD 28 undef, a'.tmps.getD 29 undef, a'.tmps.getD 30 undef, a'.tmps.getD 31 undef, a'.tmps.getD 32 undef, a'.tmps.getD 33 undef, a'.tmps.getD 34 undef, a'.tmps.getD 35 undef, a'.tmps.getD 36 undef, a'.tmps.getD 37 undef, a'.tmps.getD 38 undef, a'.tmps.getD 39 undef, a'.tmps.getD 40 undef, a'.tmps.getD 41 undef, a'.tmps.getD 42 undef, a'.tmps.getD 43 undef, a'.tmps.getD 44 undef, a'.tmps.getD 45 undef, a'.tmps.getD 46 undef, a'.tmps.getD 47 undef, a'.tmps.getD 48 undef, a'.tmps.getD 49 undef, a'.tmps.getD 50 undef, a'.tmps.getD 51 undef, a'.tmps.getD 52 undef, a'.tmps.getD 53 undef, a'.tmps.getD 54 undef, a'.tmps.getD 55 undef, a'.tmps.getD 56 undef, a'.tmps.getD 57 undef, .slice (some ⟨g, o, none⟩) len cap, .int .i64 (len : Int), .int .i64 (k : Int), a'.tmps.getD 61 undef, a'.tmps.getD 62 undef, a'.tmps.getD 63 undef, a'.tmps.getD 64 undef, a'.tmps.getD 65 undef, a'.tmps.getD 66 undef, a'.tmps.getD 67 undef, a'.tmps.getD 68 undef, a'.tmps.getD 69 undef, a'.tmps.getD 70 undef, a'.tmps.getD 71 undef, a'.tmps.getD 72 undef, a'.tmps.getD 73 undef, a'.tmps.getD 74 undef, a'.tmps.getD 75 undef, a'.tmps.getD 76 undef, .int .u8 (qd : Int), a'.tmps.getD 78 undef, a'.tmps.getD 79 undef, a'.tmps.getD 80 undef, a'.tmps.getD 81 undef, a'.tmps.getD 82 undef, a'.tmps.getD 83 undef, a'.tmps.getD 84 undef, a'.tmps.getD 85 undef, a'.tmps.getD 86 undef, a'.tmps.getD 87 undef, a'.tmps.getD 88 undef, a'.tmps.getD 89 undef, a'.tmps.getD 90 undef, a'.tmps.getD 91 undef, a'.tmps.getD 92 undef, a'.tmps.getD 93 undef, a'.tmps.getD 94 undef, a'.tmps.getD 95 undef, a'.tmps.getD 96 undef, a'.tmps.getD 97 undef, a'.tmps.getD 98 undef, a'.tmps.getD 99 undef, a'.tmps.getD 100 undef, a'.tmps.getD 101 undef, a'.tmps.getD 102 undef, a'.tmps.getD 103 undef, a'.tmps.getD 104 undef, a'.tmps.getD 105 undef, a'.tmps.getD 106 undef, a'.tmps.getD 107 undef, a'.tmps.getD 108 undef, a'.tmps.getD 109 undef, a'.tmps.getD 110 undef, a'.tmps.getD 111 undef, a'.tmps.getD 112 undef, a'.tmps.getD 113 undef, a'.tmps.getD 114 undef, a'.tmps.getD 115 undef, a'.tmps.getD 116 undef, a'.tmps.getD 117 undef, a'.tmps.getD 118 undef, a'.tmps.getD 119 undef, a'.tmps.getD 120 undef, a'.tmps.getD 121 undef, a'.tmps.getD 122 undef, a'.tmps.getD 123 undef, a'.tmps.getD 124 undef, a'.tmps.getD 125 undef, a'.tmps.getD 126 undef, a'.tmps.getD 127 undef, a'.tmps.getD 128 undef, a'.tmps.getD 129 undef, a'.tmps.getD 130 undef, a'.tmps.getD 131 undef, a'.tmps.getD 132 undef, a'.tmps.getD 133 undef, a'.tmps.getD 134 undef, a'.tmps.getD 135 undef, a'.tmps.getD 136 undef, a'.tmps.getD 137 undef, a'.tmps.getD 138 undef, a'.tmps.getD 139 undef, a'.tmps.getD 140 undef, a'.tmps.getD 141 undef, a'.tmps.getD 142 undef, a'.tmps.getD 143 undef, a'.tmps.getD 144 undef, a'.tmps.getD 145 undef, a'.tmps.getD 146 undef, a'.tmps.getD 147 undef, a'.tmps.getD 148 undef, a'.tmps.getD 149 undef, a'.tmps.getD 150 undef, a'.tmps.getD 151 undef, a'.tmps.getD 152 undef, a'.tmps.getD 153 undef, a'.tmps.getD 154 undef, a'.tmps.getD 155 undef, a'.tmps.getD 156 undef, a'.tmps.getD 157 undef, a'.tmps.getD 158 undef, a'.tmps.getD 159 undef, a'.tmps.getD 160 undef, a'.tmps.getD 161 undef, a'.tmps.getD 162 undef, a'.tmps.getD 163 undef, a'.tmps.getD 164 undef, a'.tmps.getD 165 undef, a'.tmps.getD 166 undef, a'.tmps.getD 167 undef, a'.tmps.getD 168 undef, a'.tmps.getD 169 undef, a'.tmps.getD 170 undef, a'.tmps.getD 171 undef, a'.tmps.getD 172 undef, a'.tmps.getD 173 undef, a'.tmps.getD 174 undef, a'.tmps.getD 175 undef, a'.tmps.getD 176 undef, a'.tmps.getD 177 undef, a'.tmps.getD 178 undef, a'.tmps.getD 179 undef, a'.tmps.getD 180 undef, a'.tmps.getD 181 undef, a'.tmps.getD 182 undef, a'.tmps.getD 183 undef, a'.tmps.getD 184 undef, a'.tmps.getD 185 undef, a'.tmps.getD 186 undef, a'.tmps.getD 187 undef, a'.tmps.getD 188 undef, a'.tmps.getD 189 undef, a'.tmps.getD 190 undef, a'.tmps.getD 191 undef, a'.tmps.getD 192 undef, a'.tmps.getD 193 undef, a'.tmps.getD 194 undef, a'.tmps.getD 195 undef, a'.tmps.getD 196 undef, a'.tmps.getD 197 undef, a'.tmps.getD 198 undef, a'.tmps.getD 199 undef, a'.tmps.getD 200 undef, a'.tmps.getD 201 undef, a'.tmps.getD 202 undef, a'.tmps.getD 203 undef, a'.tmps.getD 204 undef, a'.tmps.getD 205 undef, a'.tmps.getD 206 undef, a'.tmps.getD 207 undef, a'.tmps.getD 208 undef, a'.tmps.getD 209 undef, a'.tmps.getD 210 undef, a'.tmps.getD 211 undef, a'.tmps.getD 212 undef, a'.tmps.getD 213 undef, a'.tmps.getD 214 undef, a'.tmps.getD 215 undef, a'.tmps.getD 216 undef, a'.tmps.getD 217 undef, a'.tmps.getD 218 undef, a'.tmps.getD 219 undef, a'.tmps.getD 220 undef, a'.tmps.getD 221 undef, a'.tmps.getD 222 undef, a'.tmps.getD 223 undef, a'.tmps.getD 224 undef, a'.tmps.getD 225 undef, a'.tmps.getD 226 undef, a'.tmps.getD 227 undef, a'.tmps.getD 228 undef, a'.tmps.getD 229 undef, a'.tmps.getD 230 undef, a'.tmps.getD 231 undef, a'.tmps.getD 232 undef, a'.tmps.getD 233 undef, a'.tmps.getD 234 undef, a'.tmps.getD 235 undef, a'.tmps.getD 236 undef, a'.tmps.getD 237 undef, a'.tmps.getD 238 undef, a'.tmps.getD 239 undef, a'.tmps.getD 240 undef, a'.tmps.getD 241 undef, a'.tmps.getD 242 undef, a'.tmps.getD 243 undef, a'.tmps.getD 244 undef, a'.tmps.getD 245 undef, a'.tmps.getD 246 undef, a'.tmps.getD 247 undef, a'.tmps.getD 248 undef, a'.tmps.getD 249 undef, a'.tmps.getD 250 undef, a'.tmps.getD 251 undef, a'.tmps.getD 252 undef, a'.tmps.getD 253 undef, a'.tmps.getD 254 undef, a'.tmps.getD 255 undef, a'.tmps.getD 256 undef, a'.tmps.getD 257 undef, a'.tmps.getD 258 undef, a'.tmps.getD 259 undef, a'.tmps.getD 260 undef, a'.tmps.getD 261 undef, a'.tmps.getD 262 undef, a'.tmps.getD 263 undef, a'.tmps.getD 264 undef, a'.tmps.getD 265 undef, a'.tmps.getD 266 undef, a'.tmps.getD 267 undef, a'.tmps.getD 268 undef, a'.tmps.getD 269 undef, a'.tmps.getD 270 undef, a'.tmps.getD 271 undef, a'.tmps.getD 272 undef, a'.tmps.getD 273 undef, a'.tmps.getD 274 undef, a'.tmps.getD 275 undef, a'.tmps.getD 276 undef, a'.tmps.getD 277 undef, a'.tmps.getD 278 undef, a'.tmps.getD 279 undef, a'.tmps.getD 280 undef, a'.tmps.getD 281 undef, a'.tmps.getD 282 undef, a'.tmps.getD 283 undef, a'.tmps.getD 284 undef, a'.tmps.getD 285 undef, a'.tmps.getD 286 undef, a'.tmps.getD 287 undef, a'.tmps.getD 288 undef, a'.tmps.getD 289 undef, a'.tmps.getD 290 undef, a'.tmps.getD 291 undef, a'.tmps.getD 292 undef, a'.tmps.getD 293 undef, a'.tmps.getD 294 undef, a'.tmps.getD 295 undef, a'.tmps.getD 296 undef, a'.tmps.getD 297 undef, a'.tmps.getD 298 undef, a'.tmps.getD 299 undef, a'.tmps.getD 300 undef, a'.tmps.getD 301 undef, a'.tmps.getD 302 undef, a'.tmps.getD 303 undef, a'.tmps.getD 304 undef, a'.tmps.getD 305 undef, a'.tmps.getD 306 undef, a'.tmps.getD 307 undef, a'.tmps.getD 308 undef, a'.tmps.getD 309 undef, a'.tmps.getD 310 undef, a'.tmps.getD 311 undef, a'.tmps.getD 312 undef, a'.tmps.getD 313 undef, a'.tmps.getD 314 undef, a'.tmps.getD 315 undef, a'.tmps.getD 316 undef, a'.tmps.getD 317 undef, a'.tmps.getD 318 undef, a'.tmps.getD 319 undef, a'.tmps.getD 320 undef, a'.tmps.getD 321 undef, a'.tmps.getD 322 undef, a'.tmps.getD 323 undef, a'.tmps.getD 324 undef, a'.tmps.getD 325 undef, a'.tmps.getD 326 undef, a'.tmps.getD 327 undef, a'.tmps.getD 328 undef, a'.tmps.getD 329 undef, a'.tmps.getD 330 undef, a'.tmps.getD 331 undef, a'.tmps.getD 332 undef, a'.tmps.getD 333 undef, a'.tmps.getD 334 undef, a'.tmps.getD 335 undef, a'.tmps.getD 336 undef, a'.tmps.getD 337 undef], defers := [] }) (hd : qd = 6) : (npSw (Try.f3.body.getD .skip)).wp Try.prog (Exit.then K' Q') a' W := by
  obtain ⟨u, hu⟩ : ∃ u : Nat → Value, ∀ k, a'.tmps.getD k undef = u k := ⟨_, fun _ => rfl⟩
  simp only [hu] at hact
  clear hu
  subst hact
  have c0 := H2.out.cell 0
  have c1 := H2.out.cell 1
  have c2 := H2.out.cell 2
  have c3 := H2.out.cell 3
  have c4 := H2.out.cell 4
  have c5 := H2.out.cell 5
  simp only [List.getElem?_toArray, List.getElem?_cons_zero, List.getElem?_cons_succ] at c0 c1 c2 c3 c4 c5
  dsimp only [npSw, npRound, cfst, csnd, cinn, Try.f3, Option.getD]
  subst hd
  obtain ⟨i0, hi0, hz0, hz1, hz2⟩ := info_parts Try.infoO
  by_cases hin : 0 ≤ qi ∧ qi < (E.length : Int)
  · obtain ⟨i, hi⟩ : ∃ i : Nat, qi = (i : Int) := ⟨qi.toNat, by omega⟩
    subst hi
    obtain ⟨x, y, hx, hy, e1, e2, hb, h40⟩ := HT.out.at i (by omega)
    obtain ⟨xa, xc, xt, xP⟩ := x
    obtain ⟨ya, yc, yt, yP⟩ := y
    simp only at e1 e2 hb h40
    subst e1 e2
    have HC : Hid (Calls _ _ _ _ _) := rpeek_ok w W _ xb N F H2.out.three i _ hy
    have HC3 : Hid (∀ W' l', Own w W' (BagT 61 b N E :: l') → Calls _ _ _ W' _) := fun W' l' h' => bturn_ok w W' l' b N E h' i _ hx (by simp only; omega) hb qt HK.out.t0 HK.out.t1 qp HK.out.pat
    have HC2 : Hid (∀ W' A l', Own w W' (A ++ (gfs F ++ l')) → Calls _ _ _ W' _) := fun W' A l' h' => rturned_any w W' _ h' ya yc xP.length xP rfl (BytesAt.of_row (by rw [gfs_split F i _ hy, List.append_assoc, List.cons_append, ← List.append_assoc] at h'; exact Own.row h'.lift)) (by omega) hb qt HK.out.t0 HK.out.t1 qp HK.out.pat
    (try simp only at HC)
    (try simp only at HC3)
    have HY : Hid (F[i]? = some ⟨ya, yc, xt, xP⟩) := hy
    have hFl : i < F.length := by have := HT.out.leq; omega
    have hF48 : F.length ≤ 2048 := by rw [← HT.out.leq]; exact Nat.le_trans HT.out.le HT.out.N
    have ht0 := HK.out.t0
    have ht1 := HK.out.t1
    clear hin hx hy
    obtain ⟨xn, hxn⟩ : ∃ xn, xn = xP.length := ⟨_, rfl⟩
    have HXN : Hid (xn = xP.length) := hxn
    rw [← hxn] at HC HC2 h40
    clear hxn
    obtain ⟨n, hn⟩ : ∃ n, n = F.length := ⟨_, rfl⟩
    have HN : Hid (n = F.length) := hn
    go_wp2_with fail
    refine HC.out.mono ?_
    rintro e w4 ⟨rfl, hO⟩
    clear HC H2 c0 c1 c2 c3 c4 c5
    have hO := hO.allocC #[.int .i64 xt, .slice ya xn yc] 33
    go_upto_region 46 with (fail)
    generalize w4.alloc (.cells #[.int .i64 xt, .slice ya xn yc] 33) = W5 at *
    generalize w4.heap.size = bv at *
    have hO := hO.two
    obtain ⟨lv, hO⟩ := Own.ex_iff.1 hO
    obtain ⟨va, vc, rfl⟩ := row_any hO.two.row
    obtain ⟨gf, vc', hv, _⟩ := row_shape hO.two.row (by omega)
    obtain ⟨rfl, _, rfl⟩ := Value.slice.inj hv
    rw [← hn] at hO hFl hF48
    have hO := hO.perm (List.Perm.cons _ (List.Perm.cons _ ((List.perm_append_comm (l₁ := gfs F)).trans (List.Perm.refl ([_, _, _] ++ gfs F)))))
    have hO : Own w W5 (Cells xb #[.int .i64 (N : Int), .slice (some ⟨gf, 0, none⟩) n vc] 48 :: Row 33 2 (.slice (some ⟨gf, 0, none⟩) n vc) n (cat gel F) :: Cells bv #[.int .i64 xt, .slice ya xn yc] 33 :: Cells B #[.int .u8 ((6 : Nat) : Int), .int .i64 qto, .slice qa ql qc, .int .i64 ((i : Nat) : Int), .int .i64 qt, .int .u32 (qp : Int)] 36 :: BagT 61 b N E :: (gfs F ++ [])) := by rw [List.append_nil]; exact hO
    clear hv hn
    have q1 := hO.cell 1
    have n1 : W5.heap.size ≠ xb := by have := hO.lt; omega
    have q1b := (hO.alloc (.cells #[] 33)).cell 1
    have HE : Hid (Own w (W5.alloc (.cells #[] 33)) _) := hO.litRow #[] 33 2 0 (by decide) rfl
    have HCL : Hid (∀ j u, (cat gel F)[j]? = some u → (W5.alloc (.cells #[] 33)).cell? ((⟨gf, 0, none⟩ : Addr).add j) = some u) := fun j u hu => HE.out.three.row.cells rfl j u hu
    have HLE : Hid ((cat gel F).length = n * 2) := by show _ = _; rw [length_cat gel 2 gel_len, HN.out]
    simp only [List.getElem?_toArray, List.getElem?_cons_zero, List.getElem?_cons_succ] at q1 q1b
    clear hO
    go_wp2_with (at_builtin; refine append_own rfl _ _ 46 rfl 33 i0 (.agg #[.int .i64 0, .slice none 0 0]) 2 32 Try.underlying46 hi0 hz0 hz1 hz2 rfl (by decide) _ 0 [] rfl HE.out ⟨gf, 0, none⟩ n vc (cat gel F) rfl HLE.out HCL.out (one_cat _ gel_one F) (by omega) (by unfold maxLen; omega) (by omega) ?_)
    intro g6 cc6 w6 hO _

    clear HE HCL q1 q1b n1
    have t1 := hO.two.cell 1
    have t2 := hO.two.froz 1
    simp only [List.getElem?_toArray, List.getElem?_cons_zero, List.getElem?_cons_succ] at t1
    have H7 : Hid (Own w (w6.setCell ⟨xb, 1, none⟩ (.slice (some ⟨g6, 0, none⟩) n cc6)) _) := (hO.two.setC 1 (.slice (some ⟨g6, 0, none⟩) n cc6)).three.tail
    clear hO
    go_upto_region 48 with (fail)
    generalize w6.setCell ⟨xb, 1, none⟩ (.slice (some ⟨g6, 0, none⟩) n cc6) = W7 at *
    clear t1 t2
    have hO := H7.out
    clear H7
    have s1 := hO.cell 1
    simp at s1
    have s3 := hO.four.cell 3
    have s4 := hO.four.cell 4
    have s5 := hO.four.cell 5
    have sv0 := hO.three.cell 0
    have sv1 := hO.three.cell 1
    have HC : Hid (Calls _ _ _ _ _) := HC2.out W7.drew [_, _, _, _, _] [] (by first | exact hO.drew | (rw [List.append_nil]; exact hO.drew))
    have HCE : Hid ((cat gel F)[i * 2]? = some (.int .i64 xt) ∧ (cat gel F)[i * 2 + 1]? = some (.slice ya xn yc)) := ⟨(cat_at gel 2 gel_len F i 0 _ HY.out (by decide)).trans rfl, by have := (cat_at gel 2 gel_len F i 1 _ HY.out (by decide)); rw [this, HXN.out]; rfl⟩
    simp only [List.getElem?_toArray, List.getElem?_cons_zero, List.getElem?_cons_succ] at s3 s4 s5 sv0 sv1
    have HO : Hid (Own w W7 _) := hO
    clear hO HC2
    have NE1 : g6 ≠ xb := by have := HO.out.ne; simpa [Value.ownBlock] using this
    have NE2 : g6 ≠ bv := by have := (HO.out.tail.two).ne; simpa [Value.ownBlock] using this
    have NE3 : g6 ≠ B := by have := (HO.out.tail.three).ne; simpa [Value.ownBlock] using this
    go_wp2
    go_region_held3 (fun w' => w'.cell? ⟨xb, 1, none⟩ = some (.slice (some ⟨g6, 0, none⟩) n cc6) ∧ w'.cell? ⟨B, 3, none⟩ = some (.int .i64 (i : Int)) ∧ w'.cell? ⟨B, 4, none⟩ = some (.int .i64 qt) ∧ w'.cell? ⟨B, 5, none⟩ = some (.int .u32 (qp : Int)) ∧ w'.cell? ⟨bv, 0, none⟩ = some (.int .i64 xt) ∧ w'.cell? ⟨bv, 1, none⟩ = some (.slice ya xn yc)) (first | exact ⟨r1, r3, r4, r5, rv0, rv1⟩ | go_keep)
      (first
        | (go_at_call 20; with_reducible refine HC.out.mono ?_; rintro e w8 ⟨a8, cc8, rfl, O8⟩
           have r1 := (Own.two O8).cell 1
           have r3 := (Own.five O8).cell 3
           have r4 := (Own.five O8).cell 4
           have r5 := (Own.five O8).cell 5
           have rv0 := (Own.four O8).cell 0
           have rv1 := (Own.four O8).cell 1
           have x0 := (Own.three O8).row.cellAt (i * 2) (by omega)
           have x1 := (Own.three O8).row.cellAt (i * 2 + 1) (by omega)
           have y0 := (Own.three O8).row.frozenAt (i * 2)
           have y1 := (Own.three O8).row.frozenAt (i * 2 + 1)
           rw [HCE.out.1] at x0
           rw [HCE.out.2] at x1
           simp at r1
           simp only [List.getElem?_toArray, List.getElem?_cons_zero, List.getElem?_cons_succ] at r3 r4 r5 rv0 rv1))
    have hO := ((Own.three O8).setR (i * 2) (.int .i64 xt)).setR (i * 2 + 1) (.slice a8 xn cc8)
    have e1 : ((cat gel F).set (i * 2) (.int .i64 xt)).set (i * 2 + 1) (.slice a8 xn cc8) = cat gel (F.set i ⟨a8, cc8, xt, tun xP qt qp 32⟩) := by
      rw [set_id _ _ _ HCE.out.1]
      have := gel_set F i _ HY.out a8 cc8 (tun xP qt qp 32) (length_tun _ _ _ _)
      rw [HXN.out]; exact this
    rw [e1] at hO
    have HY9 : Hid (Own w _ _) := hO
    clear hO e1 O8 r1 r3 r4 r5 rv0 rv1 x0 x1 y0 y1 s1 s3 s4 s5 sv0 sv1 NE1 NE2 NE3 HC HO
    rename_i hHeldX
    clear hHeldX
    generalize (w8.setCell ⟨g6, i * 2, none⟩ (.int .i64 xt)).setCell ⟨g6, i * 2 + 1, none⟩ (.slice a8 xn cc8) = W9 at *
    have hO := HY9.out
    clear HY9
    have s3 := hO.five.cell 3
    have s4 := hO.five.cell 4
    have s5 := hO.five.cell 5
    simp only [List.getElem?_toArray, List.getElem?_cons_zero, List.getElem?_cons_succ] at s3 s4 s5
    have HC : Hid (Calls _ _ _ _ _) := HC3.out _ _ hO.six
    clear hO HC3
    go_wp2_with fail
    refine HC.out.mono ?_
    rintro e w10 ⟨rfl, a10, cc10, hO⟩
    have e2 : Row 5 1 (.slice a8 xn cc8) xn (vrow (tun xP qt qp 32)) = gfr ⟨a8, cc8, xt, tun xP qt qp 32⟩ := by unfold gfr; simp only [length_tun, ← HXN.out]
    rw [e2] at hO
    (try rw [List.append_nil] at hO)
    have hO := ((hO.five.tail.four.in23).perm (((List.Perm.swap _ _ _).cons _).cons _)).perm ((((List.perm_append_comm (l₁ := [_, _]) (l₂ := gfs F)).cons _).cons _).cons _)
    have hO := Own.gset2 HY.out hO
    have H9 : Hid (Own w w10 (BagT 48 xb N (F.set i ⟨a8, cc8, xt, tun xP qt qp 32⟩) :: _)) := Own.ex_iff.2 ⟨.slice (some ⟨g6, 0, none⟩) n cc6, by rw [List.length_set, ← HN.out]; exact hO⟩
    clear hO e2 HC s3 s4 s5
    go_wp2
    refine Met.intro (HJ.out _ _ ⟨_, _, rfl, HT.out.set i _ _ _ _ _ _ (tun_byte _ _ _ _ hb) (by rw [length_tun, ← HXN.out]; exact h40), H9.out.three.in23⟩)
  · have hin2 : ¬ (0 ≤ qi ∧ qi < (F.length : Int)) := by rw [← HT.out.leq]; exact hin
    have HC : Hid (Calls _ _ _ _ _) := rpeek_no w W _ xb N F H2.out.three qi hin2
    have HC2 : Hid (∀ W' l', Own w W' (BagO 61 (some b) N E :: l') → Calls _ _ _ W' _) := fun W' l' h' => (bno w W' l' (some b) N E h' qi hin).2.2 qt qp
    clear hin hin2
    go_wp2_with fail
    refine HC.out.mono ?_
    rintro e w4 ⟨rfl, hO⟩
    clear HC H2 c0 c1 c2 c3 c4 c5
    have c3 := hO.two.cell 3
    have c4 := hO.two.cell 4
    have c5 := hO.two.cell 5
    have n1 : w4.heap.size ≠ B := by have := hO.two.lt; omega
    have hO := hO.allocC #[.int .i64 0, .slice none 0 0] 33
    have c3b := hO.three.cell 3
    have c4b := hO.three.cell 4
    have c5b := hO.three.cell 5
    simp only [List.getElem?_toArray, List.getElem?_cons_zero, List.getElem?_cons_succ] at c3 c4 c5 c3b c4b c5b
    have HC : Hid (Calls _ _ _ _ _) := HC2.out _ _ hO.four
    have H3 : Hid (Own w _ _) := hO.tail.two
    clear hO HC2
    go_wp2_with fail
    refine HC.out.mono ?_
    rintro e w5 ⟨rfl, rfl⟩
    clear HC c3 c4 c5 c3b c4b c5b
    go_wp2
    refine Met.intro (HJ.out _ _ ⟨E, F, rfl, HT.out, H3.out.in23⟩)
end Go.Proofs.Ytiphkndahoageaa
