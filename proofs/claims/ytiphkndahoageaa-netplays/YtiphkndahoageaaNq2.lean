/-
  NetPlays: a step of kind 2.
-/
import Derived.Test.YtiphkndahoageaaNtp
namespace Go.Proofs.Ytiphkndahoageaa
open Go.ChangeShapes Go.WideShapes Go.ChangeAt Go.RowKit
set_option linter.unusedVariables false

set_option maxHeartbeats 16000000 in
set_option maxRecDepth 100000 in
theorem np_c2 (w W : World) (b xb N B k len cap g o : Nat) (E F : List Gr) (qd : Nat) (qto qi qt : Int) (qa : Option Addr) (ql qc qp m : Nat) (qP R : List Nat) (hN2 : N ≤ 2048) (hm1 : m ≤ 40) (HT : Hid (Twin N E F)) (HK : Hid (NOk w ⟨qd, qto, qa, ql, qc, qP, qi, qt, qp⟩)) (HI : Hid (In w qa m qc R)) (H2 : Hid (Own w W [Cells B #[.int .u8 (qd : Int), .int .i64 qto, .slice qa ql qc, .int .i64 qi, .int .i64 qt, .int .u32 (qp : Int)] 36, BagT 61 b N E, BagT 48 xb N F])) (J K' : Act → World → Prop) (Q' : Exit → Act → World → Prop) (HJ : Hid (∀ a' wc, (∃ E' F', a' = { tmps := #[.int .i64 (N : Int), a'.tmps.getD 1 undef, a'.tmps.getD 2 undef, a'.tmps.getD 3 undef, a'.tmps.getD 4 undef, .pointer (some ⟨b, 0, none⟩), a'.tmps.getD 6 undef, .pointer (some ⟨xb, 0, none⟩), a'.tmps.getD 8 undef, .int .i64 (k : Int), .pointer (some ⟨B, 0, none⟩), a'.tmps.getD 11 undef, .bool true, a'.tmps.getD 13 undef, a'.tmps.getD 14 undef, a'.tmps.getD 15 undef, a'.tmps.getD 16 undef, a'.tmps.getD 17 undef, a'.tmps.getD 18 undef, a'.tmps.getD 19 undef, a'.tmps.getD 20 undef, a'.tmps.getD 21 undef, a'.tmps.getD 22 undef, a'.tmps.getD 23 undef, a'.tmps.getD 24 undef, a'.tmps.getD 25 undef, a'.tmps.getD 26 undef, a'.tmps.getD 27 undef, a'.tmps.getD 28 undef, a'.tmps.getD 29 undef, a'.tmps.getD 30 undef, a'.tmps.getD 31 undef, a'.tmps.getD 32 undef, a'.tmps.getD 33 undef, a'.tmps.getD 34 undef, a'.tmps.getD 35 undef, a'.tmps.getD 36 undef, a'.tmps.getD 37 undef, a'.tmps.getD 38 undef, a'.tmps.getD 39 undef, a'.tmps.getD 40 undef, a'.tmps.getD 41 undef, a'.tmps.getD 42 undef, a'.tmps.getD 43 undef, a'.tmps.getD 44 undef, a'.tmps.getD 45 undef, a'.tmps.getD 46 undef, a'.tmps.getD 47 undef, a'.tmps.getD 48 undef, a'.tmps.getD 49 undef, a'.tmps.getD 50 undef, a'.tmps.getD 51 undef, a'.tmps.getD 52 undef, a'.tmps.getD 53 undef, a'.tmps.getD 54 undef, a'.tmps.getD 55 undef, a'.tmps.getD 56 undef, a'.tmps.getD 57 undef, .slice (some ⟨g, o, none⟩) len cap, .int .i64 (len : Int), .int .i64 (k : Int), a'.tmps.getD 61 undef, a'.tmps.getD 62 undef, a'.tmps.getD 63 undef, a'.tmps.getD 64 undef, a'.tmps.getD 65 undef, a'.tmps.getD 66 undef, a'.tmps.getD 67 undef, a'.tmps.getD 68 undef, a'.tmps.getD 69 undef, a'.tmps.getD 70 undef, a'.tmps.getD 71 undef, a'.tmps.getD 72 undef, a'.tmps.getD 73 undef, a'.tmps.getD 74 undef, a'.tmps.getD 75 undef, a'.tmps.getD 76 undef, a'.tmps.getD 77 undef, a'.tmps.getD 78 undef, a'.tmps.getD 79 undef, a'.tmps.getD 80 undef, a'.tmps.getD 81 undef, a'.tmps.getD 82 undef, a'.tmps.getD 83 undef, a'.tmps.getD 84 undef, a'.tmps.getD 85 undef, a'.tmps.getD 86 undef, a'.tmps.getD 87 undef, a'.tmps.getD 88 undef, a'.tmps.getD 89 undef, a'.tmps.getD 90 undef, a'.tmps.getD 91 undef, a'.tmps.getD 92 undef, a'.tmps.getD 93 undef, a'.tmps.getD 94 undef, a'.tmps.getD 95 undef, a'.tmps.getD 96 undef, a'.tmps.getD 97 undef, a'.tmps.getD 98 undef, a'.tmps.getD 99 undef, a'.tmps.getD 100 undef, a'.tmps.getD 101 undef, a'.tmps.getD 102 undef, a'.tmps.getD 103 undef, a'.tmps.getD 104 undef, a'.tmps.getD 105 undef, a'.tmps.getD 106 undef, a'.tmps.getD 107 undef, a'.tmps.getD 108 undef, a'.tmps.getD 109 undef, a'.tmps.getD 110 undef, a'.tmps.getD 111 undef, a'.tmps.getD 112 undef, a'.tmps.getD 113 undef, a'.tmps.getD 114 undef, a'.tmps.getD 115 undef, a'.tmps.getD 116 undef, a'.tmps.getD 117 undef, a'.tmps.getD 118 undef, a'.tmps.getD 119 undef, a'.tmps.getD 120 undef, a'.tmps.getD 121 undef, a'.tmps.getD 122 undef, a'.tmps.getD 123 undef, a'.tmps.getD 124 undef, a'.tmps.getD 125 undef, a'.tmps.getD 126 undef, a'.tmps.getD 127 undef, a'.tmps.getD 128 undef, a'.tmps.getD 129 undef, a'.tmps.getD 130 undef, a'.tmps.getD 131 undef, a'.tmps.getD 132 undef, a'.tmps.getD 133 undef, a'.tmps.getD 134 undef, a'.tmps.getD 135 undef, a'.tmps.getD 136 undef, a'.tmps.getD 137 undef, a'.tmps.getD 138 undef, a'.tmps.getD 139 undef, a'.tmps.getD 140 undef, a'.tmps.getD 141 undef, a'.tmps.getD 142 undef, a'.tmps.getD 143 undef, a'.tmps.getD 144 undef, a'.tmps.getD 145 undef, a'.tmps.getD 146 undef, a'.tmps.getD 147 undef, a'.tmps.getD 148 undef, a'.tmps.getD 149 undef, a'.tmps.getD 150 undef, a'.tmps.getD 151 undef, a'.tmps.getD 152 undef, a'.tmps.getD 153 undef, a'.tmps.getD 154 undef, a'.tmps.getD 155 undef, a'.tmps.getD 156 undef, a'.tmps.getD 157 undef, a'.tmps.getD 158 undef, a'.tmps.getD 159 undef, a'.tmps.getD 160 undef, a'.tmps.getD 161 undef, a'.tmps.getD 162 undef, a'.tmps.getD 163 undef, a'.tmps.getD 164 undef, a'.tmps.getD 165 undef, a'.tmps.getD 166 undef, a'.tmps.getD 167 undef, a'.tmps.getD 168 undef, a'.tmps.getD 169 undef, a'.tmps.getD 170 undef, a'.tmps.getD 171 undef, a'.tmps.getD 172 undef, a'.tmps.getD 173 undef, a'.tmps.getD 174 undef, a'.tmps.getD 175 undef, a'.tmps.getD 176 undef, a'.tmps.getD 177 undef, a'.tmps.getD 178 undef, a'.tmps.getD 179 undef, a'.tmps.getD 180 undef, a'.tmps.getD 181 undef, a'.tmps.getD 182 undef, a'.tmps.getD 183 undef, a'.tmps.getD 184 undef, a'.tmps.getD 185 undef, a'.tmps.getD 186 undef, a'.tmps.getD 187 undef, a'.tmps.getD 188 undef, a'.tmps.getD 189 undef, a'.tmps.getD 190 undef, a'.tmps.getD 191 undef, a'.tmps.getD 192 undef, a'.tmps.getD 193 undef, a'.tmps.getD 194 undef, a'.tmps.getD 195 undef, a'.tmps.getD 196 undef, a'.tmps.getD 197 undef, a'.tmps.getD 198 undef, a'.tmps.getD 199 undef, a'.tmps.getD 200 undef, a'.tmps.getD 201 undef, a'.tmps.getD 202 undef, a'.tmps.getD 203 undef, a'.tmps.getD 204 undef, a'.tmps.getD 205 undef, a'.tmps.getD 206 undef, a'.tmps.getD 207 undef, a'.tmps.getD 208 undef, a'.tmps.getD 209 undef, a'.tmps.getD 210 undef, a'.tmps.getD 211 undef, a'.tmps.getD 212 undef, a'.tmps.getD 213 undef, a'.tmps.getD 214 undef, a'.tmps.getD 215 undef, a'.tmps.getD 216 undef, a'.tmps.getD 217 undef, a'.tmps.getD 218 undef, a'.tmps.getD 219 undef, a'.tmps.getD 220 undef, a'.tmps.getD 221 undef, a'.tmps.getD 222 undef, a'.tmps.getD 223 undef, a'.tmps.getD 224 undef, a'.tmps.getD 225 undef, a'.tmps.getD 226 undef, a'.tmps.getD 227 undef, a'.tmps.getD 228 undef, a'.tmps.getD 229 undef, a'.tmps.getD 230 undef, a'.tmps.getD 231 undef, a'.tmps.getD 232 undef, a'.tmps.getD 233 undef, a'.tmps.getD 234 undef, a'.tmps.getD 235 undef, a'.tmps.getD 236 undef, a'.tmps.getD 237 undef, a'.tmps.getD 238 undef, a'.tmps.getD 239 undef, a'.tmps.getD 240 undef, a'.tmps.getD 241 undef, a'.tmps.getD 242 undef, a'.tmps.getD 243 undef, a'.tmps.getD 244 undef, a'.tmps.getD 245 undef, a'.tmps.getD 246 undef, a'.tmps.getD 247 undef, a'.tmps.getD 248 undef, a'.tmps.getD 249 undef, a'.tmps.getD 250 undef, a'.tmps.getD 251 undef, a'.tmps.getD 252 undef, a'.tmps.getD 253 undef, a'.tmps.getD 254 undef, a'.tmps.getD 255 undef, a'.tmps.getD 256 undef, a'.tmps.getD 257 undef, a'.tmps.getD 258 undef, a'.tmps.getD 259 undef, a'.tmps.getD 260 undef, a'.tmps.getD 261 undef, a'.tmps.getD 262 undef, a'.tmps.getD 263 undef, a'.tmps.getD 264 undef, a'.tmps.getD 265 undef, a'.tmps.getD 266 undef, a'.tmps.getD 267 undef, a'.tmps.getD 268 undef, a'.tmps.getD 269 undef, a'.tmps.getD 270 undef, a'.tmps.getD 271 undef, a'.tmps.getD 272 undef, a'.tmps.getD 273 undef, a'.tmps.getD 274 undef, a'.tmps.getD 275 undef, a'.tmps.getD 276 undef, a'.tmps.getD 277 undef, a'.tmps.getD 278 undef, a'.tmps.getD 279 undef, a'.tmps.getD 280 undef, a'.tmps.getD 281 undef, a'.tmps.getD 282 undef, a'.tmps.getD 283 undef, a'.tmps.getD 284 undef, a'.tmps.getD 285 undef, a'.tmps.getD 286 undef, a'.tmps.getD 287 undef, a'.tmps.getD 288 undef, a'.tmps.getD 289 undef, a'.tmps.getD 290 undef, a'.tmps.getD 291 undef, a'.tmps.getD 292 undef, a'.tmps.getD 293 undef, a'.tmps.getD 294 undef, a'.tmps.getD 295 undef, a'.tmps.getD 296 undef, a'.tmps.getD 297 undef, a'.tmps.getD 298 undef, a'.tmps.getD 299 undef, a'.tmps.getD 300 undef, a'.tmps.getD 301 undef, a'.tmps.getD 302 undef, a'.tmps.getD 303 undef, a'.tmps.getD 304 undef, a'.tmps.getD 305 undef, a'.tmps.getD 306 undef, a'.tmps.getD 307 undef, a'.tmps.getD 308 undef, a'.tmps.getD 309 undef, a'.tmps.getD 310 undef, a'.tmps.getD 311 undef, a'.tmps.getD 312 undef, a'.tmps.getD 313 undef, a'.tmps.getD 314 undef, a'.tmps.getD 315 undef, a'.tmps.getD 316 undef, a'.tmps.getD 317 undef, a'.tmps.getD 318 undef, a'.tmps.getD 319 undef, a'.tmps.getD 320 undef, a'.tmps.getD 321 undef, a'.tmps.getD 322 undef, a'.tmps.getD 323 undef, a'.tmps.getD 324 undef, a'.tmps.getD 325 undef, a'.tmps.getD 326 undef, a'.tmps.getD 327 undef, a'.tmps.getD 328 undef, a'.tmps.getD 329 undef, a'.tmps.getD 330 undef, a'.tmps.getD 331 undef, a'.tmps.getD 332 undef, a'.tmps.getD 333 undef, a'.tmps.getD 334 undef, a'.tmps.getD 335 undef, a'.tmps.getD 336 undef, a'.tmps.getD 337 undef], defers := [] } ∧ Twin N E' F' ∧ Own w wc [Cells B #[.int .u8 (qd : Int), .int .i64 qto, .slice qa ql qc, .int .i64 qi, .int .i64 qt, .int .u32 (qp : Int)] 36, BagT 61 b N E', BagT 48 xb N F']) → J a' wc)) (hK' : ∀ a' w', Met J a' w' → K' a' w') (a' : Act) (hact : a' = { tmps := #[.int .i64 (N : Int), a'.tmps.getD 1 undef, a'.tmps.getD 2 undef, a'.tmps.getD 3 undef, a'.tmps.getD 4 undef, .pointer (some ⟨b, 0, none⟩), a'.tmps.getD 6 undef, .pointer (some ⟨xb, 0, none⟩), a'.tmps.getD 8 undef, .int .i64 (k : Int), .pointer (some ⟨B, 0, none⟩), .slice qa m qc, .bool true, a'.tmps.getD 13 undef, a'.tmps.getD 14 undef, a'.tmps.getD 15 undef, a'.tmps.getD 16 undef, a'.tmps.getD 17 undef, a'.tmps.getD 18 undef, a'.tmps.getD 19 undef, a'.tmps.getD 20 undef, a'.tmps.getD 21 undef, a'.tmps.getD 22 undef, a'.tmps.getD 23 undef, a'.tmps.getD 24 undef, a'.tmps.getD 25 undef, a'.tmps.getD 26 undef, a'.tmps.getD 27 undef, a'.tmps.getD 28 undef, a'.tmps.getD 29 undef, a'.tmps.getD 30 undef, a'.tmps.getD 31 undef, a'.tmps.getD 32 undef, a'.tmps.getD 33 undef, a'.tmps.getD 34 undef, a'.tmps.getD 35 undef, a'.tmps.getD 36 undef, a'.tmps.getD 37 undef, a'.tmps.getD 38 undef, a'.tmps.getD 39 undef, a'.tmps.getD 40 undef, a'.tmps.getD 41 undef, a'.tmps.getD 42 undef, a'.tmps.getD 43 undef, a'.tmps.getD 44 undef, a'.tmps.getD 45 undef, a'.tmps.getD 46 undef, a'.tmps.getD 47 undef, a'.tmps.getD 48 undef, a'.tmps.getD 49 undef, a'.tmps.getD 50 undef, a'.tmps.getD 51 undef, a'.tmps.getD 52 undef, a'.tmps.getD 53 undef, a'.tmps.getD 54 undef, a'.tmps.getD 55 undef, a'.tmps.getD 56 undef, a'.tmps.getD 57 undef, .slice (some ⟨g, o, none⟩) len cap, .int .i64 (len : Int), .int .i64 (k : Int), a'.tmps.getD 61 undef, a'.tmps.getD 62 undef, a'.tmps.getD 63 undef, a'.tmps.getD 64 undef, a'.tmps.getD 65 undef, a'.tmps.getD 66 undef, a'.tmps.getD 67 undef, a'.tmps.getD 68 undef, a'.tmps.getD 69 undef, a'.tmps.getD 70 undef, a'.tmps.getD 71 undef, a'.tmps.getD 72 undef, a'.tmps.getD 73 undef, a'.tmps.getD 74 undef, a'.tmps.getD 75 undef, a'.tmps.getD 76 undef, .int .u8 (qd : Int), a'.tmps.getD 78 undef, a'.tmps.getD 79 undef, a'.tmps.getD 80 undef, a'.tmps.getD 81 undef, a'.tmps.getD 82 undef, a'.tmps.getD 83 undef, a'.tmps.getD 84 undef, a'.tmps.getD 85 undef, a'.tmps.getD 86 undef, a'.tmps.getD 87 undef, a'.tmps.getD 88 undef, a'.tmps.getD 89 undef, a'.tmps.getD 90 undef, a'.tmps.getD 91 undef, a'.tmps.getD 92 undef, a'.tmps.getD 93 undef, a'.tmps.getD 94 undef, a'.tmps.getD 95 undef, a'.tmps.getD 96 undef, a'.tmps.getD 97 undef, a'.tmps.getD 98 undef, a'.tmps.getD 99 undef, a'.tmps.getD 100 undef, a'.tmps.getD 101 undef, a'.tmps.getD 102 undef, a'.tmps.getD 103 undef, a'.tmps.getD 104 undef, a'.tmps.getD 105 undef, a'.tmps.getD 106 undef, a'.tmps.getD 107 undef, a'.tmps.getD 108 undef, a'.tmps.getD 109 undef, a'.tmps.getD 110 undef, a'.tmps.getD 111 undef, a'.tmps.getD 112 undef, a'.tmps.getD 113 undef, a'.tmps.getD 114 undef, a'.tmps.getD 115 undef, a'.tmps.getD 116 undef, a'.tmps.getD 117 undef, a'.tmps.getD 118 undef, a'.tmps.getD 119 undef, a'.tmps.getD 120 undef, a'.tmps.getD 121 undef, a'.tmps.getD 122 undef, a'.tmps.getD 123 undef, a'.tmps.getD 124 undef, a'.tmps.getD 125 undef, a'.tmps.getD 126 undef, a'.tmps.getD 127 undef, a'.tmps.getD 128 undef, a'.tmps.getD 129 undef, a'.tmps.getD 130 undef, a'.tmps.getD 131 undef, a'.tmps.getD 132 undef, a'.tmps.getD 133 undef, a'.tmps.getD 134 undef, a'.tmps.getD 135 undef, a'.tmps.getD 136 undef, a'.tmps.getD 137 undef, a'.tmps.getD 138 undef, a'.tmps.getD 139 undef, a'.tmps.getD 140 undef, a'.tmps.getD 141 undef, a'.tmps.getD 142 undef, a'.tmps.getD 143 undef, a'.tmps.getD 144 undef, a'.tmps.getD 145 undef, a'.tmps.getD 146 undef, a'.tmps.getD 147 undef, a'.tmps.getD 148 undef, a'.tmps.getD 149 undef, a'.tmps.getD 150 undef, a'.tmps.getD 151 undef, a'.tmps.getD 152 undef, a'.tmps.getD 153 undef, a'.tmps.getD 154 undef, a'.tmps.getD 155 undef, a'.tmps.getD 156 undef, a'.tmps.getD 157 undef, a'.tmps.getD 158 undef, a'.tmps.getD 159 undef, a'.tmps.getD 160 undef, a'.tmps.getD 161 undef, a'.tmps.getD 162 undef, a'.tmps.getD 163 undef, a'.tmps.getD 164 undef, a'.tmps.getD 165 undef, a'.tmps.getD 166 undef, a'.tmps.getD 167 undef, a'.tmps.getD 168 undef, a'.tmps.getD 169 undef, a'.tmps.getD 170 undef, a'.tmps.getD 171 undef, a'.tmps.getD 172 undef, a'.tmps.getD 173 undef, a'.tmps.getD 174 undef, a'.tmps.getD 175 undef, a'.tmps.getD 176 undef, a'.tmps.getD 177 undef, a'.tmps.getD 178 undef, a'.tmps.getD 179 undef, a'.tmps.getD 180 undef, a'.tmps.getD 181 undef, a'.tmps.getD 182 undef, a'.tmps.getD 183 undef, a'.tmps.getD 184 undef, a'.tmps.getD 185 undef, a'.tmps.getD 186 undef, a'.tmps.getD 187 undef, a'.tmps.getD 188 undef, a'.tmps.getD 189 undef, a'.tmps.getD 190 undef, a'.tmps.getD 191 undef, a'.tmps.getD 192 undef, a'.tmps.getD 193 undef, a'.tmps.getD 194 undef, a'.tmps.getD 195 undef, a'.tmps.getD 196 undef, a'.tmps.getD 197 undef, a'.tmps.getD 198 undef, a'.tmps.getD 199 undef, a'.tmps.getD 200 undef, a'.tmps.getD 201 undef, a'.tmps.getD 202 undef, a'.tmps.getD 203 undef, a'.tmps.getD 204 undef, a'.tmps.getD 205 undef, a'.tmps.getD 206 undef, a'.tmps.getD 207 undef, a'.tmps.getD 208 undef, a'.tmps.getD 209 undef, a'.tmps.getD 210 undef, a'.tmps.getD 211 undef, a'.tmps.getD 212 undef, a'.tmps.getD 213 undef, a'.tmps.getD 214 undef, a'.tmps.getD 215 undef, a'.tmps.getD 216 undef, a'.tmps.getD 217 undef, a'.tmps.getD 218 undef, a'.tmps.getD 219 undef, a'.tmps.getD 220 undef, a'.tmps.getD 221 undef, a'.tmps.getD 222 undef, a'.tmps.getD 223 undef, a'.tmps.getD 224 undef, a'.tmps.getD 225 undef, a'.tmps.getD 226 undef, a'.tmps.getD 227 undef, a'.tmps.getD 228 undef, a'.tmps.getD 229 undef, a'.tmps.getD 230 undef, a'.tmps.getD 231 undef, a'.tmps.getD 232 undef, a'.tmps.getD 233 undef, a'.tmps.getD 234 undef, a'.tmps.getD 235 undef, a'.tmps.getD 236 undef, a'.tmps.getD 237 undef, a'.tmps.getD 238 undef, a'.tmps.getD 239 undef, a'.tmps.getD 240 undef, a'.tmps.getD 241 undef, a'.tmps.getD 242 undef, a'.tmps.getD 243 undef, a'.tmps.getD 244 undef, a'.tmps.getD 245 undef, a'.tmps.getD 246 undef, a'.tmps.getD 247 undef, a'.tmps.getD 248 undef, a'.tmps.getD 249 undef, a'.tmps.getD 250 undef, a'.tmps.getD 251 undef, a'.tmps.getD 252 undef, a'.tmps.getD 253 undef, a'.tmps.getD 254 undef, a'.tmps.getD 255 undef, a'.tmps.getD 256 undef, a'.tmps.getD 257 undef, a'.tmps.getD 258 undef, a'.tmps.getD 259 undef, a'.tmps.getD 260 undef, a'.tmps.getD 261 undef, a'.tmps.getD 262 undef, a'.tmps.getD 263 undef, a'.tmps.getD 264 undef, a'.tmps.getD 265 undef, a'.tmps.getD 266 undef, a'.tmps.getD 267 undef, a'.tmps.getD 268 undef, a'.tmps.getD 269 undef, a'.tmps.getD 270 undef, a'.tmps.getD 271 undef, a'.tmps.getD 272 undef, a'.tmps.getD 273 undef, a'.tmps.getD 274 undef, a'.tmps.getD 275 undef, a'.tmps.getD 276 undef, a'.tmps.getD 277 undef, a'.tmps.getD 278 undef, a'.tmps.getD 279 undef, a'.tmps.getD 280 undef, a'.tmps.getD 281 undef, a'.tmps.getD 282 undef, a'.tmps.getD 283 undef, a'.tmps.getD 284 undef, a'.tmps.getD 285 undef, a'.tmps.getD 286 undef, a'.tmps.getD 287 undef, a'.tmps.getD 288 undef, a'.tmps.getD 289 undef, a'.tmps.getD 290 undef, a'.tmps.getD 291 undef, a'.tmps.getD 292 undef, a'.tmps.getD 293 undef, a'.tmps.getD 294 undef, a'.tmps.getD 295 undef, a'.tmps.getD 296 undef, a'.tmps.getD 297 undef, a'.tmps.getD 298 undef, a'.tmps.getD 299 undef, a'.tmps.getD 300 undef, a'.tmps.getD 301 undef, a'.tmps.getD 302 undef, a'.tmps.getD 303 undef, a'.tmps.getD 304 undef, a'.tmps.getD 305 undef, a'.tmps.getD 306 undef, a'.tmps.getD 307 undef, a'.tmps.getD 308 undef, a'.tmps.getD 309 undef, a'.tmps.getD 310 undef, a'.tmps.getD 311 undef, a'.tmps.getD 312 undef, a'.tmps.getD 313 undef, a'.tmps.getD 314 undef, a'.tmps.getD 315 undef, a'.tmps.getD 316 undef, a'.tmps.getD 317 undef, a'.tmps.getD 318 undef, a'.tmps.getD 319 undef, a'.tmps.getD 320 undef, a'.tmps.getD 321 undef, a'.tmps.getD 322 undef, a'.tmps.getD 323 undef, a'.tmps.getD 324 undef, a'.tmps.getD 325 undef, a'.tmps.getD 326 undef, a'.tmps.getD 327 undef, a'.tmps.getD 328 undef, a'.tmps.getD 329 undef, a'.tmps.getD 330 undef, a'.tmps.getD 331 undef, a'.tmps.getD 332 undef, a'.tmps.getD 333 undef, a'.tmps.getD 334 undef, a'.tmps.getD 335 undef, a'.tmps.getD 336 undef, a'.tmps.getD 337 undef], defers := [] }) (hd : qd = 2) : (npSw (Try.f3.body.getD .skip)).wp Try.prog (Exit.then K' Q') a' W := by
  obtain ⟨u, hu⟩ : ∃ u : Nat → Value, ∀ k, a'.tmps.getD k undef = u k := ⟨_, fun _ => rfl⟩
  simp only [hu] at hact
  clear hu
  subst hact
  have c0 := H2.out.cell 0
  have c1 := H2.out.cell 1
  have c2 := H2.out.cell 2
  have c3 := H2.out.cell 3
  have c4 := H2.out.cell 4
  have c5 := H2.out.cell 5
  simp only [List.getElem?_toArray, List.getElem?_cons_zero, List.getElem?_cons_succ] at c0 c1 c2 c3 c4 c5
  dsimp only [npSw, npRound, cfst, csnd, cinn, Try.f3, Option.getD]
  subst hd
  by_cases hin : 0 ≤ qi ∧ qi < (E.length : Int)
  · obtain ⟨i, hi⟩ : ∃ i : Nat, qi = (i : Int) := ⟨qi.toNat, by omega⟩
    subst hi
    obtain ⟨x, y, hx, hy, e1, e2, hb, h40⟩ := HT.out.at i (by omega)
    obtain ⟨xa, xc, xt, xP⟩ := x
    obtain ⟨ya, yc, yt, yP⟩ := y
    simp only at e1 e2 hb h40
    subst e1 e2
    have HC : Hid (Calls _ _ _ _ _) := btake_ok w W _ b N E H2.out.two (Nat.le_trans HT.out.le HT.out.N) i _ hx
    have HC2 : Hid (∀ W' l', Own w W' (BagT 48 xb N F :: l') → Calls _ _ _ W' _) := fun W' l' h' => rtake_ok w W' l' xb N F h' (by rw [← HT.out.leq]; exact Nat.le_trans HT.out.le HT.out.N) i _ hy
    simp only at HC HC2
    clear hin hx hy
    go_wp2_with fail
    refine HC.out.mono ?_
    rintro e w4 ⟨rfl, hO⟩
    clear HC H2 c0 c1 c2 c3 c4 c5
    have c3 := hO.three.cell 3
    simp only [List.getElem?_toArray, List.getElem?_cons_zero, List.getElem?_cons_succ] at c3
    have n1 : w4.heap.size ≠ B := by have := hO.three.lt; omega
    have hO := hO.allocC #[.int .i64 xt, .slice xa xP.length xc] 33
    have c3b := hO.four.cell 3
    simp only [List.getElem?_toArray, List.getElem?_cons_zero, List.getElem?_cons_succ] at c3b
    have HC : Hid (Calls _ _ _ _ _) := HC2.out _ _ hO.five
    clear hO HC2
    go_wp2_with fail
    refine HC.out.mono ?_
    rintro e w5 ⟨rfl, hO⟩
    clear HC c3 c3b
    generalize w4.heap.size = bu at *
    have u0 := hO.three.cell 0
    have u1 := hO.three.cell 1
    simp only [List.getElem?_toArray, List.getElem?_cons_zero, List.getElem?_cons_succ] at u0 u1
    have n2 : w5.heap.size ≠ bu := by have := hO.three.lt; omega
    have hO := hO.allocC #[.int .i64 xt, .slice ya xP.length yc] 33
    have u0b := hO.four.cell 0
    have u1b := hO.four.cell 1
    simp only [List.getElem?_toArray, List.getElem?_cons_zero, List.getElem?_cons_succ] at u0b u1b
    have HC : Hid (Calls _ _ _ _ _) := same24 _ xt xa xc ya yc xP (Src.of_row hO.five.row) (Src.of_row hO.two.row)
    have H2 : Hid (Own w _ _) := hO
    clear hO
    go_wp2_with fail
    refine HC.out.mono ?_
    rintro e w6 ⟨rfl, hf⟩
    have hO := H2.out.quiet hf
    have H3 : Hid (Own w w6 _) := hO.tail.tail.two.tail.two.tail.three.in23
    clear HC H2 hf hO
    go_wp2
    refine Met.intro (HJ.out _ _ ⟨E.eraseIdx i, F.eraseIdx i, rfl, HT.out.erase i, H3.out⟩)
  · have hin2 : ¬ (0 ≤ qi ∧ qi < (F.length : Int)) := by rw [← HT.out.leq]; exact hin
    have HC : Hid (Calls _ _ _ _ _) := btake_no w W _ (some b) N E H2.out.two qi hin
    have HC2 : Hid (∀ W' l', Own w W' (BagT 48 xb N F :: l') → Calls _ _ _ W' _) := fun W' l' h' => rtake_no w W' l' xb N F h' qi hin2
    clear hin hin2
    go_wp2_with fail
    refine HC.out.mono ?_
    rintro e w4 ⟨rfl, hO⟩
    clear HC H2 c0 c1 c2 c3 c4 c5
    have hO : Own w w4 (BagT 61 b N E :: _) := hO
    have c3 := hO.two.cell 3
    simp only [List.getElem?_toArray, List.getElem?_cons_zero, List.getElem?_cons_succ] at c3
    have n1 : w4.heap.size ≠ B := by have := hO.two.lt; omega
    have hO := hO.allocC #[.int .i64 0, .slice none 0 0] 33
    have c3b := hO.three.cell 3
    simp only [List.getElem?_toArray, List.getElem?_cons_zero, List.getElem?_cons_succ] at c3b
    have HC : Hid (Calls _ _ _ _ _) := HC2.out _ _ hO.four
    clear hO HC2
    go_wp2_with fail
    refine HC.out.mono ?_
    rintro e w5 ⟨rfl, hO⟩
    clear HC c3 c3b
    generalize w4.heap.size = bu at *
    have u0 := hO.two.cell 0
    have u1 := hO.two.cell 1
    simp only [List.getElem?_toArray, List.getElem?_cons_zero, List.getElem?_cons_succ] at u0 u1
    have n2 : w5.heap.size ≠ bu := by have := hO.two.lt; omega
    have hO := hO.allocC #[.int .i64 0, .slice none 0 0] 33
    have u0b := hO.three.cell 0
    have u1b := hO.three.cell 1
    simp only [List.getElem?_toArray, List.getElem?_cons_zero, List.getElem?_cons_succ] at u0b u1b
    have HC : Hid (Calls _ _ _ _ _) := same24 (w5.alloc (.cells #[.int .i64 0, .slice none 0 0] 33)) 0 none 0 none 0 [] (src_nil _) (src_nil _)
    have H2 : Hid (Own w _ _) := hO
    clear hO
    go_wp2_with fail
    refine HC.out.mono ?_
    rintro e w6 ⟨rfl, hf⟩
    have hO := H2.out.quiet hf
    have H3 : Hid (Own w w6 _) := hO.tail.two.tail.three.in23
    clear HC H2 hf hO
    go_wp2
    refine Met.intro (HJ.out _ _ ⟨E, F, rfl, HT.out, H3.out⟩)
end Go.Proofs.Ytiphkndahoageaa
