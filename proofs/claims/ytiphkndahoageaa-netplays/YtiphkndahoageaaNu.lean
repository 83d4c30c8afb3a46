/-
  Every script of datagrams that come, go, are doubled, lost and spoilt has the document's answers, a nil bag's too; they come back untouched, and aren't kept: NetPlays returns true, whatever its arguments, and changes nothing that was there.
-/
import Derived.Test.YtiphkndahoageaaNq0
import Derived.Test.YtiphkndahoageaaNq1
import Derived.Test.YtiphkndahoageaaNq2
import Derived.Test.YtiphkndahoageaaNq3
import Derived.Test.YtiphkndahoageaaNq4
import Derived.Test.YtiphkndahoageaaNq5
import Derived.Test.YtiphkndahoageaaNq6
import Derived.Test.YtiphkndahoageaaNq7
import Derived.ChangeOld
namespace Go.Proofs.Ytiphkndahoageaa
open Go.ChangeShapes Go.WideShapes Go.ChangeAt Go.RowKit
set_option linter.unusedVariables false

set_option maxHeartbeats 16000000 in
set_option maxRecDepth 100000 in
theorem netPlays_some (w : World) (ao : Option Addr) (len cap : Nat) (Q : List NOp) (hQ : IsOps w ao len cap Q) (N : Nat) (hN1 : 1 ≤ N) (hN2 : N ≤ 2048) :
    Calls Try.prog 3 #[.int .i64 (N : Int), .slice ao len cap] w fun e w' => e = .returned (.bool true) ∧ Fr Nobody w w' := by
  obtain ⟨hQl, hlc, hcm, hQa⟩ := hQ
  unfold maxLen at hcm
  have HQ : Hid (Q.length = len ∧ RowsAt (OpT w) 6 w ao Q) := ⟨hQl, hQa⟩
  clear hQl hQa
  go_enter Try.func3, Try.ntmps3
  go_wp2_with fail
  refine (awake24 w).mono ?_
  rintro e w1 ⟨rfl, hf⟩
  have HC : Hid (Calls _ _ _ _ _) := bnew_ok w w1 [] N (Own.of_fr hf) hN1 hN2
  clear hf
  go_wp2_with fail
  refine HC.out.mono ?_
  rintro e w2 ⟨b, rfl, hO⟩
  clear HC
  have HC : Hid (Calls _ _ _ _ _) := rnew_ok w w2 _ N hO hN1 hN2
  clear hO
  go_wp2_with fail
  refine HC.out.mono ?_
  rintro e w3 ⟨xb, rfl, hO⟩
  clear HC
  have H3 : Hid (Own w w3 [BagT 61 b N [], BagT 48 xb N []]) := hO.two
  clear hO
  go_wp2
  refine wp_loop (fun a' wr => ∃ (k : Nat) (E F : List Gr), a' = { tmps := #[.int .i64 (N : Int), a'.tmps.getD 1 undef, a'.tmps.getD 2 undef, a'.tmps.getD 3 undef, a'.tmps.getD 4 undef, .pointer (some ⟨b, 0, none⟩), a'.tmps.getD 6 undef, .pointer (some ⟨xb, 0, none⟩), a'.tmps.getD 8 undef, a'.tmps.getD 9 undef, a'.tmps.getD 10 undef, a'.tmps.getD 11 undef, a'.tmps.getD 12 undef, a'.tmps.getD 13 undef, a'.tmps.getD 14 undef, a'.tmps.getD 15 undef, a'.tmps.getD 16 undef, a'.tmps.getD 17 undef, a'.tmps.getD 18 undef, a'.tmps.getD 19 undef, a'.tmps.getD 20 undef, a'.tmps.getD 21 undef, a'.tmps.getD 22 undef, a'.tmps.getD 23 undef, a'.tmps.getD 24 undef, a'.tmps.getD 25 undef, a'.tmps.getD 26 undef, a'.tmps.getD 27 undef, a'.tmps.getD 28 undef, a'.tmps.getD 29 undef, a'.tmps.getD 30 undef, a'.tmps.getD 31 undef, a'.tmps.getD 32 undef, a'.tmps.getD 33 undef, a'.tmps.getD 34 undef, a'.tmps.getD 35 undef, a'.tmps.getD 36 undef, a'.tmps.getD 37 undef, a'.tmps.getD 38 undef, a'.tmps.getD 39 undef, a'.tmps.getD 40 undef, a'.tmps.getD 41 undef, a'.tmps.getD 42 undef, a'.tmps.getD 43 undef, a'.tmps.getD 44 undef, a'.tmps.getD 45 undef, a'.tmps.getD 46 undef, a'.tmps.getD 47 undef, a'.tmps.getD 48 undef, a'.tmps.getD 49 undef, a'.tmps.getD 50 undef, a'.tmps.getD 51 undef, a'.tmps.getD 52 undef, a'.tmps.getD 53 undef, a'.tmps.getD 54 undef, a'.tmps.getD 55 undef, a'.tmps.getD 56 undef, a'.tmps.getD 57 undef, .slice ao len cap, .int .i64 (len : Int), .int .i64 (k : Int), a'.tmps.getD 61 undef, a'.tmps.getD 62 undef, a'.tmps.getD 63 undef, a'.tmps.getD 64 undef, a'.tmps.getD 65 undef, a'.tmps.getD 66 undef, a'.tmps.getD 67 undef, a'.tmps.getD 68 undef, a'.tmps.getD 69 undef, a'.tmps.getD 70 undef, a'.tmps.getD 71 undef, a'.tmps.getD 72 undef, a'.tmps.getD 73 undef, a'.tmps.getD 74 undef, a'.tmps.getD 75 undef, a'.tmps.getD 76 undef, a'.tmps.getD 77 undef, a'.tmps.getD 78 undef, a'.tmps.getD 79 undef, a'.tmps.getD 80 undef, a'.tmps.getD 81 undef, a'.tmps.getD 82 undef, a'.tmps.getD 83 undef, a'.tmps.getD 84 undef, a'.tmps.getD 85 undef, a'.tmps.getD 86 undef, a'.tmps.getD 87 undef, a'.tmps.getD 88 undef, a'.tmps.getD 89 undef, a'.tmps.getD 90 undef, a'.tmps.getD 91 undef, a'.tmps.getD 92 undef, a'.tmps.getD 93 undef, a'.tmps.getD 94 undef, a'.tmps.getD 95 undef, a'.tmps.getD 96 undef, a'.tmps.getD 97 undef, a'.tmps.getD 98 undef, a'.tmps.getD 99 undef, a'.tmps.getD 100 undef, a'.tmps.getD 101 undef, a'.tmps.getD 102 undef, a'.tmps.getD 103 undef, a'.tmps.getD 104 undef, a'.tmps.getD 105 undef, a'.tmps.getD 106 undef, a'.tmps.getD 107 undef, a'.tmps.getD 108 undef, a'.tmps.getD 109 undef, a'.tmps.getD 110 undef, a'.tmps.getD 111 undef, a'.tmps.getD 112 undef, a'.tmps.getD 113 undef, a'.tmps.getD 114 undef, a'.tmps.getD 115 undef, a'.tmps.getD 116 undef, a'.tmps.getD 117 undef, a'.tmps.getD 118 undef, a'.tmps.getD 119 undef, a'.tmps.getD 120 undef, a'.tmps.getD 121 undef, a'.tmps.getD 122 undef, a'.tmps.getD 123 undef, a'.tmps.getD 124 undef, a'.tmps.getD 125 undef, a'.tmps.getD 126 undef, a'.tmps.getD 127 undef, a'.tmps.getD 128 undef, a'.tmps.getD 129 undef, a'.tmps.getD 130 undef, a'.tmps.getD 131 undef, a'.tmps.getD 132 undef, a'.tmps.getD 133 undef, a'.tmps.getD 134 undef, a'.tmps.getD 135 undef, a'.tmps.getD 136 undef, a'.tmps.getD 137 undef, a'.tmps.getD 138 undef, a'.tmps.getD 139 undef, a'.tmps.getD 140 undef, a'.tmps.getD 141 undef, a'.tmps.getD 142 undef, a'.tmps.getD 143 undef, a'.tmps.getD 144 undef, a'.tmps.getD 145 undef, a'.tmps.getD 146 undef, a'.tmps.getD 147 undef, a'.tmps.getD 148 undef, a'.tmps.getD 149 undef, a'.tmps.getD 150 undef, a'.tmps.getD 151 undef, a'.tmps.getD 152 undef, a'.tmps.getD 153 undef, a'.tmps.getD 154 undef, a'.tmps.getD 155 undef, a'.tmps.getD 156 undef, a'.tmps.getD 157 undef, a'.tmps.getD 158 undef, a'.tmps.getD 159 undef, a'.tmps.getD 160 undef, a'.tmps.getD 161 undef, a'.tmps.getD 162 undef, a'.tmps.getD 163 undef, a'.tmps.getD 164 undef, a'.tmps.getD 165 undef, a'.tmps.getD 166 undef, a'.tmps.getD 167 undef, a'.tmps.getD 168 undef, a'.tmps.getD 169 undef, a'.tmps.getD 170 undef, a'.tmps.getD 171 undef, a'.tmps.getD 172 undef, a'.tmps.getD 173 undef, a'.tmps.getD 174 undef, a'.tmps.getD 175 undef, a'.tmps.getD 176 undef, a'.tmps.getD 177 undef, a'.tmps.getD 178 undef, a'.tmps.getD 179 undef, a'.tmps.getD 180 undef, a'.tmps.getD 181 undef, a'.tmps.getD 182 undef, a'.tmps.getD 183 undef, a'.tmps.getD 184 undef, a'.tmps.getD 185 undef, a'.tmps.getD 186 undef, a'.tmps.getD 187 undef, a'.tmps.getD 188 undef, a'.tmps.getD 189 undef, a'.tmps.getD 190 undef, a'.tmps.getD 191 undef, a'.tmps.getD 192 undef, a'.tmps.getD 193 undef, a'.tmps.getD 194 undef, a'.tmps.getD 195 undef, a'.tmps.getD 196 undef, a'.tmps.getD 197 undef, a'.tmps.getD 198 undef, a'.tmps.getD 199 undef, a'.tmps.getD 200 undef, a'.tmps.getD 201 undef, a'.tmps.getD 202 undef, a'.tmps.getD 203 undef, a'.tmps.getD 204 undef, a'.tmps.getD 205 undef, a'.tmps.getD 206 undef, a'.tmps.getD 207 undef, a'.tmps.getD 208 undef, a'.tmps.getD 209 undef, a'.tmps.getD 210 undef, a'.tmps.getD 211 undef, a'.tmps.getD 212 undef, a'.tmps.getD 213 undef, a'.tmps.getD 214 undef, a'.tmps.getD 215 undef, a'.tmps.getD 216 undef, a'.tmps.getD 217 undef, a'.tmps.getD 218 undef, a'.tmps.getD 219 undef, a'.tmps.getD 220 undef, a'.tmps.getD 221 undef, a'.tmps.getD 222 undef, a'.tmps.getD 223 undef, a'.tmps.getD 224 undef, a'.tmps.getD 225 undef, a'.tmps.getD 226 undef, a'.tmps.getD 227 undef, a'.tmps.getD 228 undef, a'.tmps.getD 229 undef, a'.tmps.getD 230 undef, a'.tmps.getD 231 undef, a'.tmps.getD 232 undef, a'.tmps.getD 233 undef, a'.tmps.getD 234 undef, a'.tmps.getD 235 undef, a'.tmps.getD 236 undef, a'.tmps.getD 237 undef, a'.tmps.getD 238 undef, a'.tmps.getD 239 undef, a'.tmps.getD 240 undef, a'.tmps.getD 241 undef, a'.tmps.getD 242 undef, a'.tmps.getD 243 undef, a'.tmps.getD 244 undef, a'.tmps.getD 245 undef, a'.tmps.getD 246 undef, a'.tmps.getD 247 undef, a'.tmps.getD 248 undef, a'.tmps.getD 249 undef, a'.tmps.getD 250 undef, a'.tmps.getD 251 undef, a'.tmps.getD 252 undef, a'.tmps.getD 253 undef, a'.tmps.getD 254 undef, a'.tmps.getD 255 undef, a'.tmps.getD 256 undef, a'.tmps.getD 257 undef, a'.tmps.getD 258 undef, a'.tmps.getD 259 undef, a'.tmps.getD 260 undef, a'.tmps.getD 261 undef, a'.tmps.getD 262 undef, a'.tmps.getD 263 undef, a'.tmps.getD 264 undef, a'.tmps.getD 265 undef, a'.tmps.getD 266 undef, a'.tmps.getD 267 undef, a'.tmps.getD 268 undef, a'.tmps.getD 269 undef, a'.tmps.getD 270 undef, a'.tmps.getD 271 undef, a'.tmps.getD 272 undef, a'.tmps.getD 273 undef, a'.tmps.getD 274 undef, a'.tmps.getD 275 undef, a'.tmps.getD 276 undef, a'.tmps.getD 277 undef, a'.tmps.getD 278 undef, a'.tmps.getD 279 undef, a'.tmps.getD 280 undef, a'.tmps.getD 281 undef, a'.tmps.getD 282 undef, a'.tmps.getD 283 undef, a'.tmps.getD 284 undef, a'.tmps.getD 285 undef, a'.tmps.getD 286 undef, a'.tmps.getD 287 undef, a'.tmps.getD 288 undef, a'.tmps.getD 289 undef, a'.tmps.getD 290 undef, a'.tmps.getD 291 undef, a'.tmps.getD 292 undef, a'.tmps.getD 293 undef, a'.tmps.getD 294 undef, a'.tmps.getD 295 undef, a'.tmps.getD 296 undef, a'.tmps.getD 297 undef, a'.tmps.getD 298 undef, a'.tmps.getD 299 undef, a'.tmps.getD 300 undef, a'.tmps.getD 301 undef, a'.tmps.getD 302 undef, a'.tmps.getD 303 undef, a'.tmps.getD 304 undef, a'.tmps.getD 305 undef, a'.tmps.getD 306 undef, a'.tmps.getD 307 undef, a'.tmps.getD 308 undef, a'.tmps.getD 309 undef, a'.tmps.getD 310 undef, a'.tmps.getD 311 undef, a'.tmps.getD 312 undef, a'.tmps.getD 313 undef, a'.tmps.getD 314 undef, a'.tmps.getD 315 undef, a'.tmps.getD 316 undef, a'.tmps.getD 317 undef, a'.tmps.getD 318 undef, a'.tmps.getD 319 undef, a'.tmps.getD 320 undef, a'.tmps.getD 321 undef, a'.tmps.getD 322 undef, a'.tmps.getD 323 undef, a'.tmps.getD 324 undef, a'.tmps.getD 325 undef, a'.tmps.getD 326 undef, a'.tmps.getD 327 undef, a'.tmps.getD 328 undef, a'.tmps.getD 329 undef, a'.tmps.getD 330 undef, a'.tmps.getD 331 undef, a'.tmps.getD 332 undef, a'.tmps.getD 333 undef, a'.tmps.getD 334 undef, a'.tmps.getD 335 undef, a'.tmps.getD 336 undef, a'.tmps.getD 337 undef], defers := [] } ∧ k ≤ len ∧ Twin N E F ∧ Own w wr [BagT 61 b N E, BagT 48 xb N F]) (fun a' _ => len - (intOf (a'.tmps.getD 60 undef)).toNat) ?_ ?_
  · exact ⟨0, [], [], rfl, by omega, ⟨rfl, by simp, hN2, by simp, by simp⟩, H3.out⟩
  · intro a' wr hI
    obtain ⟨k, E, F, hact, hk, hT, hO⟩ := hI
    obtain ⟨u, hu⟩ : ∃ u : Nat → Value, ∀ k, a'.tmps.getD k undef = u k := ⟨_, fun _ => rfl⟩
    simp only [hu] at hact
    clear hu
    subst hact
    have HT : Hid (Twin N E F) := hT
    clear hT H3
    by_cases hlt : k < len
    · obtain ⟨g, o, q, hao, hq, p0, p1, p2, p3, p4, p5⟩ := op_at (HQ.out.2.quiet hO.fr) k (by rw [HQ.out.1]; exact hlt)
      subst hao
      have hlt' : (k : Int) < (len : Int) := by omega
      obtain ⟨qd, qto, qa, ql, qc, qP, qi, qt, qp⟩ := q
      have HK : Hid (NOk w _) := hq
      have hqle := hq.fr.le
      have hqm := hq.max
      unfold maxLen at hqm
      simp only at hqle hqm p0 p1 p2 p3 p4 p5
      clear hq
      by_cases h80 : k < 80
      · have h80' : ¬ (80 : Int) ≤ (k : Int) := by omega
        obtain ⟨m, hm⟩ : ∃ m, m = min ql 40 := ⟨_, rfl⟩
        have hmin : (if (40 : Int) < (ql : Int) then (40 : Int) else (ql : Int)) = (m : Int) := by split <;> omega
        have hm1 : m ≤ 40 := by omega
        have hm2 : m ≤ ql := by omega
        have hO2 := hO.allocC #[.int .u8 (qd : Int), .int .i64 qto, .slice qa ql qc, .int .i64 qi, .int .i64 qt, .int .u32 (qp : Int)] 36
        have HI : Hid (In w qa m qc (qP.take m)) := HK.out.fr.cut m hm2
        obtain ⟨R, hR⟩ : ∃ R, R = qP.take m := ⟨_, rfl⟩
        rw [← hR] at HI
        clear hO hm hR
        go_upto_block 2 with (fail)
        generalize wr.alloc (.cells #[.int .u8 (qd : Int), .int .i64 qto, .slice qa ql qc, .int .i64 qi, .int .i64 qt, .int .u32 (qp : Int)] 36) = W at *
        generalize wr.heap.size = B at *
        have H2 : Hid (Own w W _) := hO2
        have c0 := hO2.cell 0
        have c1 := hO2.cell 1
        have c2 := hO2.cell 2
        have c3 := hO2.cell 3
        have c4 := hO2.cell 4
        have c5 := hO2.cell 5
        simp only [List.getElem?_toArray, List.getElem?_cons_zero, List.getElem?_cons_succ] at c0 c1 c2 c3 c4 c5
        clear hO2 p0 p1 p2 p3 p4 p5 hmin
        refine wp_cut (fun a' wc => ∃ E' F', a' = { tmps := #[.int .i64 (N : Int), a'.tmps.getD 1 undef, a'.tmps.getD 2 undef, a'.tmps.getD 3 undef, a'.tmps.getD 4 undef, .pointer (some ⟨b, 0, none⟩), a'.tmps.getD 6 undef, .pointer (some ⟨xb, 0, none⟩), a'.tmps.getD 8 undef, .int .i64 (k : Int), .pointer (some ⟨B, 0, none⟩), a'.tmps.getD 11 undef, .bool true, a'.tmps.getD 13 undef, a'.tmps.getD 14 undef, a'.tmps.getD 15 undef, a'.tmps.getD 16 undef, a'.tmps.getD 17 undef, a'.tmps.getD 18 undef, a'.tmps.getD 19 undef, a'.tmps.getD 20 undef, a'.tmps.getD 21 undef, a'.tmps.getD 22 undef, a'.tmps.getD 23 undef, a'.tmps.getD 24 undef, a'.tmps.getD 25 undef, a'.tmps.getD 26 undef, a'.tmps.getD 27 undef, a'.tmps.getD 28 undef, a'.tmps.getD 29 undef, a'.tmps.getD 30 undef, a'.tmps.getD 31 undef, a'.tmps.getD 32 undef, a'.tmps.getD 33 undef, a'.tmps.getD 34 undef, a'.tmps.getD 35 undef, a'.tmps.getD 36 undef, a'.tmps.getD 37 undef, a'.tmps.getD 38 undef, a'.tmps.getD 39 undef, a'.tmps.getD 40 undef, a'.tmps.getD 41 undef, a'.tmps.getD 42 undef, a'.tmps.getD 43 undef, a'.tmps.getD 44 undef, a'.tmps.getD 45 undef, a'.tmps.getD 46 undef, a'.tmps.getD 47 undef, a'.tmps.getD 48 undef, a'.tmps.getD 49 undef, a'.tmps.getD 50 undef, a'.tmps.getD 51 undef, a'.tmps.getD 52 undef, a'.tmps.getD 53 undef, a'.tmps.getD 54 undef, a'.tmps.getD 55 undef, a'.tmps.getD 56 undef, a'.tmps.getD 57 undef, .slice (some ⟨g, o, none⟩) len cap, .int .i64 (len : Int), .int .i64 (k : Int), a'.tmps.getD 61 undef, a'.tmps.getD 62 undef, a'.tmps.getD 63 undef, a'.tmps.getD 64 undef, a'.tmps.getD 65 undef, a'.tmps.getD 66 undef, a'.tmps.getD 67 undef, a'.tmps.getD 68 undef, a'.tmps.getD 69 undef, a'.tmps.getD 70 undef, a'.tmps.getD 71 undef, a'.tmps.getD 72 undef, a'.tmps.getD 73 undef, a'.tmps.getD 74 undef, a'.tmps.getD 75 undef, a'.tmps.getD 76 undef, a'.tmps.getD 77 undef, a'.tmps.getD 78 undef, a'.tmps.getD 79 undef, a'.tmps.getD 80 undef, a'.tmps.getD 81 undef, a'.tmps.getD 82 undef, a'.tmps.getD 83 undef, a'.tmps.getD 84 undef, a'.tmps.getD 85 undef, a'.tmps.getD 86 undef, a'.tmps.getD 87 undef, a'.tmps.getD 88 undef, a'.tmps.getD 89 undef, a'.tmps.getD 90 undef, a'.tmps.getD 91 undef, a'.tmps.getD 92 undef, a'.tmps.getD 93 undef, a'.tmps.getD 94 undef, a'.tmps.getD 95 undef, a'.tmps.getD 96 undef, a'.tmps.getD 97 undef, a'.tmps.getD 98 undef, a'.tmps.getD 99 undef, a'.tmps.getD 100 undef, a'.tmps.getD 101 undef, a'.tmps.getD 102 undef, a'.tmps.getD 103 undef, a'.tmps.getD 104 undef, a'.tmps.getD 105 undef, a'.tmps.getD 106 undef, a'.tmps.getD 107 undef, a'.tmps.getD 108 undef, a'.tmps.getD 109 undef, a'.tmps.getD 110 undef, a'.tmps.getD 111 undef, a'.tmps.getD 112 undef, a'.tmps.getD 113 undef, a'.tmps.getD 114 undef, a'.tmps.getD 115 undef, a'.tmps.getD 116 undef, a'.tmps.getD 117 undef, a'.tmps.getD 118 undef, a'.tmps.getD 119 undef, a'.tmps.getD 120 undef, a'.tmps.getD 121 undef, a'.tmps.getD 122 undef, a'.tmps.getD 123 undef, a'.tmps.getD 124 undef, a'.tmps.getD 125 undef, a'.tmps.getD 126 undef, a'.tmps.getD 127 undef, a'.tmps.getD 128 undef, a'.tmps.getD 129 undef, a'.tmps.getD 130 undef, a'.tmps.getD 131 undef, a'.tmps.getD 132 undef, a'.tmps.getD 133 undef, a'.tmps.getD 134 undef, a'.tmps.getD 135 undef, a'.tmps.getD 136 undef, a'.tmps.getD 137 undef, a'.tmps.getD 138 undef, a'.tmps.getD 139 undef, a'.tmps.getD 140 undef, a'.tmps.getD 141 undef, a'.tmps.getD 142 undef, a'.tmps.getD 143 undef, a'.tmps.getD 144 undef, a'.tmps.getD 145 undef, a'.tmps.getD 146 undef, a'.tmps.getD 147 undef, a'.tmps.getD 148 undef, a'.tmps.getD 149 undef, a'.tmps.getD 150 undef, a'.tmps.getD 151 undef, a'.tmps.getD 152 undef, a'.tmps.getD 153 undef, a'.tmps.getD 154 undef, a'.tmps.getD 155 undef, a'.tmps.getD 156 undef, a'.tmps.getD 157 undef, a'.tmps.getD 158 undef, a'.tmps.getD 159 undef, a'.tmps.getD 160 undef, a'.tmps.getD 161 undef, a'.tmps.getD 162 undef, a'.tmps.getD 163 undef, a'.tmps.getD 164 undef, a'.tmps.getD 165 undef, a'.tmps.getD 166 undef, a'.tmps.getD 167 undef, a'.tmps.getD 168 undef, a'.tmps.getD 169 undef, a'.tmps.getD 170 undef, a'.tmps.getD 171 undef, a'.tmps.getD 172 undef, a'.tmps.getD 173 undef, a'.tmps.getD 174 undef, a'.tmps.getD 175 undef, a'.tmps.getD 176 undef, a'.tmps.getD 177 undef, a'.tmps.getD 178 undef, a'.tmps.getD 179 undef, a'.tmps.getD 180 undef, a'.tmps.getD 181 undef, a'.tmps.getD 182 undef, a'.tmps.getD 183 undef, a'.tmps.getD 184 undef, a'.tmps.getD 185 undef, a'.tmps.getD 186 undef, a'.tmps.getD 187 undef, a'.tmps.getD 188 undef, a'.tmps.getD 189 undef, a'.tmps.getD 190 undef, a'.tmps.getD 191 undef, a'.tmps.getD 192 undef, a'.tmps.getD 193 undef, a'.tmps.getD 194 undef, a'.tmps.getD 195 undef, a'.tmps.getD 196 undef, a'.tmps.getD 197 undef, a'.tmps.getD 198 undef, a'.tmps.getD 199 undef, a'.tmps.getD 200 undef, a'.tmps.getD 201 undef, a'.tmps.getD 202 undef, a'.tmps.getD 203 undef, a'.tmps.getD 204 undef, a'.tmps.getD 205 undef, a'.tmps.getD 206 undef, a'.tmps.getD 207 undef, a'.tmps.getD 208 undef, a'.tmps.getD 209 undef, a'.tmps.getD 210 undef, a'.tmps.getD 211 undef, a'.tmps.getD 212 undef, a'.tmps.getD 213 undef, a'.tmps.getD 214 undef, a'.tmps.getD 215 undef, a'.tmps.getD 216 undef, a'.tmps.getD 217 undef, a'.tmps.getD 218 undef, a'.tmps.getD 219 undef, a'.tmps.getD 220 undef, a'.tmps.getD 221 undef, a'.tmps.getD 222 undef, a'.tmps.getD 223 undef, a'.tmps.getD 224 undef, a'.tmps.getD 225 undef, a'.tmps.getD 226 undef, a'.tmps.getD 227 undef, a'.tmps.getD 228 undef, a'.tmps.getD 229 undef, a'.tmps.getD 230 undef, a'.tmps.getD 231 undef, a'.tmps.getD 232 undef, a'.tmps.getD 233 undef, a'.tmps.getD 234 undef, a'.tmps.getD 235 undef, a'.tmps.getD 236 undef, a'.tmps.getD 237 undef, a'.tmps.getD 238 undef, a'.tmps.getD 239 undef, a'.tmps.getD 240 undef, a'.tmps.getD 241 undef, a'.tmps.getD 242 undef, a'.tmps.getD 243 undef, a'.tmps.getD 244 undef, a'.tmps.getD 245 undef, a'.tmps.getD 246 undef, a'.tmps.getD 247 undef, a'.tmps.getD 248 undef, a'.tmps.getD 249 undef, a'.tmps.getD 250 undef, a'.tmps.getD 251 undef, a'.tmps.getD 252 undef, a'.tmps.getD 253 undef, a'.tmps.getD 254 undef, a'.tmps.getD 255 undef, a'.tmps.getD 256 undef, a'.tmps.getD 257 undef, a'.tmps.getD 258 undef, a'.tmps.getD 259 undef, a'.tmps.getD 260 undef, a'.tmps.getD 261 undef, a'.tmps.getD 262 undef, a'.tmps.getD 263 undef, a'.tmps.getD 264 undef, a'.tmps.getD 265 undef, a'.tmps.getD 266 undef, a'.tmps.getD 267 undef, a'.tmps.getD 268 undef, a'.tmps.getD 269 undef, a'.tmps.getD 270 undef, a'.tmps.getD 271 undef, a'.tmps.getD 272 undef, a'.tmps.getD 273 undef, a'.tmps.getD 274 undef, a'.tmps.getD 275 undef, a'.tmps.getD 276 undef, a'.tmps.getD 277 undef, a'.tmps.getD 278 undef, a'.tmps.getD 279 undef, a'.tmps.getD 280 undef, a'.tmps.getD 281 undef, a'.tmps.getD 282 undef, a'.tmps.getD 283 undef, a'.tmps.getD 284 undef, a'.tmps.getD 285 undef, a'.tmps.getD 286 undef, a'.tmps.getD 287 undef, a'.tmps.getD 288 undef, a'.tmps.getD 289 undef, a'.tmps.getD 290 undef, a'.tmps.getD 291 undef, a'.tmps.getD 292 undef, a'.tmps.getD 293 undef, a'.tmps.getD 294 undef, a'.tmps.getD 295 undef, a'.tmps.getD 296 undef, a'.tmps.getD 297 undef, a'.tmps.getD 298 undef, a'.tmps.getD 299 undef, a'.tmps.getD 300 undef, a'.tmps.getD 301 undef, a'.tmps.getD 302 undef, a'.tmps.getD 303 undef, a'.tmps.getD 304 undef, a'.tmps.getD 305 undef, a'.tmps.getD 306 undef, a'.tmps.getD 307 undef, a'.tmps.getD 308 undef, a'.tmps.getD 309 undef, a'.tmps.getD 310 undef, a'.tmps.getD 311 undef, a'.tmps.getD 312 undef, a'.tmps.getD 313 undef, a'.tmps.getD 314 undef, a'.tmps.getD 315 undef, a'.tmps.getD 316 undef, a'.tmps.getD 317 undef, a'.tmps.getD 318 undef, a'.tmps.getD 319 undef, a'.tmps.getD 320 undef, a'.tmps.getD 321 undef, a'.tmps.getD 322 undef, a'.tmps.getD 323 undef, a'.tmps.getD 324 undef, a'.tmps.getD 325 undef, a'.tmps.getD 326 undef, a'.tmps.getD 327 undef, a'.tmps.getD 328 undef, a'.tmps.getD 329 undef, a'.tmps.getD 330 undef, a'.tmps.getD 331 undef, a'.tmps.getD 332 undef, a'.tmps.getD 333 undef, a'.tmps.getD 334 undef, a'.tmps.getD 335 undef, a'.tmps.getD 336 undef, a'.tmps.getD 337 undef], defers := [] } ∧ Twin N E' F' ∧ Own w wc [Cells B #[.int .u8 (qd : Int), .int .i64 qto, .slice qa ql qc, .int .i64 qi, .int .i64 qt, .int .u32 (qp : Int)] 36, BagT 61 b N E', BagT 48 xb N F']) ?rest ?first
        case first =>
          intro J K' hJ hK'
          have HJ : Hid _ := hJ
          clear hJ
          have hd : qd = 0 ∨ qd = 1 ∨ qd = 2 ∨ qd = 3 ∨ qd = 4 ∨ qd = 5 ∨ qd = 6 ∨ 7 ≤ qd := by omega
          rcases hd with hd | hd | hd | hd | hd | hd | hd | hd
          · exact np_c0 w W b xb N B k len cap g o E F qd qto qi qt qa ql qc qp m _ R hN2 hm1 HT HK HI H2 J K' _ HJ hK' _ rfl hd
          · exact np_c1 w W b xb N B k len cap g o E F qd qto qi qt qa ql qc qp m _ R hN2 hm1 HT HK HI H2 J K' _ HJ hK' _ rfl hd
          · exact np_c2 w W b xb N B k len cap g o E F qd qto qi qt qa ql qc qp m _ R hN2 hm1 HT HK HI H2 J K' _ HJ hK' _ rfl hd
          · exact np_c3 w W b xb N B k len cap g o E F qd qto qi qt qa ql qc qp m _ R hN2 hm1 HT HK HI H2 J K' _ HJ hK' _ rfl hd
          · exact np_c4 w W b xb N B k len cap g o E F qd qto qi qt qa ql qc qp m _ R hN2 hm1 HT HK HI H2 J K' _ HJ hK' _ rfl hd
          · exact np_c5 w W b xb N B k len cap g o E F qd qto qi qt qa ql qc qp m _ R hN2 hm1 HT HK HI H2 J K' _ HJ hK' _ rfl hd
          · exact np_c6 w W b xb N B k len cap g o E F qd qto qi qt qa ql qc qp m _ R hN2 hm1 HT HK HI H2 J K' _ HJ hK' _ rfl hd
          · exact np_c7 w W b xb N B k len cap g o E F qd qto qi qt qa ql qc qp m _ R hN2 hm1 HT HK HI H2 J K' _ HJ hK' _ rfl hd
        case rest =>
          intro a' wc hcut
          obtain ⟨E', F', hact, hT, hO⟩ := hcut
          obtain ⟨u, hu⟩ : ∃ u : Nat → Value, ∀ k, a'.tmps.getD k undef = u k := ⟨_, fun _ => rfl⟩
          simp only [hu] at hact
          clear hu
          subst hact
          clear HT H2 c0 c1 c2 c3 c4 c5
          have HT : Hid (Twin N E' F') := hT
          clear hT
          have c1 := hO.cell 1
          simp only [List.getElem?_toArray, List.getElem?_cons_zero, List.getElem?_cons_succ] at c1
          have HC : Hid (Calls _ _ _ _ _) := bto_ok w wc _ b N E' hO.two (Nat.le_trans HT.out.le HT.out.N) qto
          clear hO
          obtain ⟨n, hn⟩ : ∃ n, n = E'.length := ⟨_, rfl⟩
          obtain ⟨T, hT⟩ : ∃ T, T = E'.map Gr.to := ⟨_, rfl⟩
          have HN : Hid (n = E'.length ∧ T = E'.map Gr.to ∧ n = F'.length) := ⟨hn, hT, by rw [hn]; exact HT.out.leq⟩
          have hn48 : n ≤ 2048 := by rw [hn]; exact Nat.le_trans HT.out.le HT.out.N
          rw [← hn, ← hT] at HC
          clear hn hT
          go_wp2_with fail
          refine HC.out.mono ?_
          rintro e w4 ⟨la, lc, rfl, hO⟩
          clear HC
          obtain ⟨LL, hLL⟩ : ∃ LL, LL = tosK qto T n := ⟨_, rfl⟩
          have HLL : Hid (LL = tosK qto T n) := hLL
          have hL48 : LL.length ≤ n := by rw [hLL]; exact tosK_le _ _ _
          rw [← hLL] at hO ⊢
          clear hLL
          have hO := hO.four
          obtain ⟨lv, hO⟩ := Own.ex_iff.1 hO
          obtain ⟨va, vc, rfl⟩ := row_any hO.two.row
          rw [← HN.out.2.2] at hO
          have q1 := hO.cell 1
          simp only [List.getElem?_toArray, List.getElem?_cons_zero, List.getElem?_cons_succ] at q1
          have H4 : Hid (Own w w4 (Cells xb #[.int .i64 (N : Int), .slice va n vc] 48 :: Row 33 2 (.slice va n vc) n (cat gel F') :: (gfs F' ++ _))) := hO
          clear hO
          have H5 : Hid (Own w w4 (Cells xb #[.int .i64 (N : Int), .slice va n vc] 48 :: Row 33 2 (.slice va n vc) n (cat gel F') :: Row 3 1 (.slice la LL.length lc) LL.length (irow .i64 LL) :: BagT 61 b N E' :: Cells B #[.int .u8 (qd : Int), .int .i64 qto, .slice qa ql qc, .int .i64 qi, .int .i64 qt, .int .u32 (qp : Int)] 36 :: (gfs F' ++ []))) := H4.out.perm (List.Perm.cons _ (List.Perm.cons _ ((List.perm_append_comm (l₁ := gfs F')).trans (by simp))))
          clear H4
          obtain ⟨ln, hln⟩ : ∃ ln, ln = LL.length := ⟨_, rfl⟩
          have HLN : Hid (ln = LL.length) := hln
          rw [← hln] at H5 hL48
          rw [← hln]
          clear hln
          go_wp2
          refine wp_loop (fun a' wr => ∃ (j : Nat), a' = { tmps := #[.int .i64 (N : Int), a'.tmps.getD 1 undef, a'.tmps.getD 2 undef, a'.tmps.getD 3 undef, a'.tmps.getD 4 undef, .pointer (some ⟨b, 0, none⟩), a'.tmps.getD 6 undef, .pointer (some ⟨xb, 0, none⟩), a'.tmps.getD 8 undef, .int .i64 (k : Int), .pointer (some ⟨B, 0, none⟩), a'.tmps.getD 11 undef, .bool true, a'.tmps.getD 13 undef, a'.tmps.getD 14 undef, a'.tmps.getD 15 undef, a'.tmps.getD 16 undef, a'.tmps.getD 17 undef, a'.tmps.getD 18 undef, a'.tmps.getD 19 undef, a'.tmps.getD 20 undef, a'.tmps.getD 21 undef, a'.tmps.getD 22 undef, a'.tmps.getD 23 undef, a'.tmps.getD 24 undef, a'.tmps.getD 25 undef, a'.tmps.getD 26 undef, a'.tmps.getD 27 undef, a'.tmps.getD 28 undef, a'.tmps.getD 29 undef, .slice la ln lc, .int .i64 ((tosK qto T j).length : Nat), a'.tmps.getD 32 undef, a'.tmps.getD 33 undef, a'.tmps.getD 34 undef, a'.tmps.getD 35 undef, a'.tmps.getD 36 undef, a'.tmps.getD 37 undef, a'.tmps.getD 38 undef, a'.tmps.getD 39 undef, a'.tmps.getD 40 undef, a'.tmps.getD 41 undef, a'.tmps.getD 42 undef, a'.tmps.getD 43 undef, a'.tmps.getD 44 undef, a'.tmps.getD 45 undef, a'.tmps.getD 46 undef, a'.tmps.getD 47 undef, a'.tmps.getD 48 undef, a'.tmps.getD 49 undef, a'.tmps.getD 50 undef, a'.tmps.getD 51 undef, a'.tmps.getD 52 undef, a'.tmps.getD 53 undef, a'.tmps.getD 54 undef, a'.tmps.getD 55 undef, a'.tmps.getD 56 undef, a'.tmps.getD 57 undef, .slice (some ⟨g, o, none⟩) len cap, .int .i64 (len : Int), .int .i64 (k : Int), a'.tmps.getD 61 undef, a'.tmps.getD 62 undef, a'.tmps.getD 63 undef, a'.tmps.getD 64 undef, a'.tmps.getD 65 undef, a'.tmps.getD 66 undef, a'.tmps.getD 67 undef, a'.tmps.getD 68 undef, a'.tmps.getD 69 undef, a'.tmps.getD 70 undef, a'.tmps.getD 71 undef, a'.tmps.getD 72 undef, a'.tmps.getD 73 undef, a'.tmps.getD 74 undef, a'.tmps.getD 75 undef, a'.tmps.getD 76 undef, a'.tmps.getD 77 undef, a'.tmps.getD 78 undef, a'.tmps.getD 79 undef, a'.tmps.getD 80 undef, a'.tmps.getD 81 undef, a'.tmps.getD 82 undef, a'.tmps.getD 83 undef, a'.tmps.getD 84 undef, a'.tmps.getD 85 undef, a'.tmps.getD 86 undef, a'.tmps.getD 87 undef, a'.tmps.getD 88 undef, a'.tmps.getD 89 undef, a'.tmps.getD 90 undef, a'.tmps.getD 91 undef, a'.tmps.getD 92 undef, a'.tmps.getD 93 undef, a'.tmps.getD 94 undef, a'.tmps.getD 95 undef, a'.tmps.getD 96 undef, a'.tmps.getD 97 undef, a'.tmps.getD 98 undef, a'.tmps.getD 99 undef, a'.tmps.getD 100 undef, a'.tmps.getD 101 undef, a'.tmps.getD 102 undef, a'.tmps.getD 103 undef, a'.tmps.getD 104 undef, a'.tmps.getD 105 undef, a'.tmps.getD 106 undef, a'.tmps.getD 107 undef, a'.tmps.getD 108 undef, a'.tmps.getD 109 undef, a'.tmps.getD 110 undef, a'.tmps.getD 111 undef, a'.tmps.getD 112 undef, a'.tmps.getD 113 undef, a'.tmps.getD 114 undef, a'.tmps.getD 115 undef, a'.tmps.getD 116 undef, a'.tmps.getD 117 undef, a'.tmps.getD 118 undef, a'.tmps.getD 119 undef, a'.tmps.getD 120 undef, a'.tmps.getD 121 undef, a'.tmps.getD 122 undef, a'.tmps.getD 123 undef, a'.tmps.getD 124 undef, a'.tmps.getD 125 undef, a'.tmps.getD 126 undef, a'.tmps.getD 127 undef, a'.tmps.getD 128 undef, a'.tmps.getD 129 undef, a'.tmps.getD 130 undef, a'.tmps.getD 131 undef, a'.tmps.getD 132 undef, a'.tmps.getD 133 undef, a'.tmps.getD 134 undef, a'.tmps.getD 135 undef, a'.tmps.getD 136 undef, a'.tmps.getD 137 undef, a'.tmps.getD 138 undef, a'.tmps.getD 139 undef, a'.tmps.getD 140 undef, a'.tmps.getD 141 undef, a'.tmps.getD 142 undef, a'.tmps.getD 143 undef, a'.tmps.getD 144 undef, a'.tmps.getD 145 undef, a'.tmps.getD 146 undef, a'.tmps.getD 147 undef, a'.tmps.getD 148 undef, a'.tmps.getD 149 undef, a'.tmps.getD 150 undef, a'.tmps.getD 151 undef, a'.tmps.getD 152 undef, a'.tmps.getD 153 undef, a'.tmps.getD 154 undef, a'.tmps.getD 155 undef, a'.tmps.getD 156 undef, a'.tmps.getD 157 undef, a'.tmps.getD 158 undef, a'.tmps.getD 159 undef, a'.tmps.getD 160 undef, a'.tmps.getD 161 undef, a'.tmps.getD 162 undef, a'.tmps.getD 163 undef, a'.tmps.getD 164 undef, a'.tmps.getD 165 undef, a'.tmps.getD 166 undef, a'.tmps.getD 167 undef, a'.tmps.getD 168 undef, a'.tmps.getD 169 undef, a'.tmps.getD 170 undef, a'.tmps.getD 171 undef, a'.tmps.getD 172 undef, a'.tmps.getD 173 undef, a'.tmps.getD 174 undef, a'.tmps.getD 175 undef, a'.tmps.getD 176 undef, a'.tmps.getD 177 undef, a'.tmps.getD 178 undef, a'.tmps.getD 179 undef, a'.tmps.getD 180 undef, a'.tmps.getD 181 undef, a'.tmps.getD 182 undef, a'.tmps.getD 183 undef, a'.tmps.getD 184 undef, a'.tmps.getD 185 undef, a'.tmps.getD 186 undef, a'.tmps.getD 187 undef, a'.tmps.getD 188 undef, a'.tmps.getD 189 undef, a'.tmps.getD 190 undef, a'.tmps.getD 191 undef, a'.tmps.getD 192 undef, a'.tmps.getD 193 undef, a'.tmps.getD 194 undef, a'.tmps.getD 195 undef, a'.tmps.getD 196 undef, a'.tmps.getD 197 undef, a'.tmps.getD 198 undef, a'.tmps.getD 199 undef, a'.tmps.getD 200 undef, a'.tmps.getD 201 undef, a'.tmps.getD 202 undef, a'.tmps.getD 203 undef, a'.tmps.getD 204 undef, a'.tmps.getD 205 undef, a'.tmps.getD 206 undef, a'.tmps.getD 207 undef, a'.tmps.getD 208 undef, a'.tmps.getD 209 undef, a'.tmps.getD 210 undef, a'.tmps.getD 211 undef, a'.tmps.getD 212 undef, a'.tmps.getD 213 undef, a'.tmps.getD 214 undef, a'.tmps.getD 215 undef, a'.tmps.getD 216 undef, a'.tmps.getD 217 undef, a'.tmps.getD 218 undef, a'.tmps.getD 219 undef, a'.tmps.getD 220 undef, a'.tmps.getD 221 undef, a'.tmps.getD 222 undef, a'.tmps.getD 223 undef, a'.tmps.getD 224 undef, a'.tmps.getD 225 undef, a'.tmps.getD 226 undef, a'.tmps.getD 227 undef, a'.tmps.getD 228 undef, a'.tmps.getD 229 undef, a'.tmps.getD 230 undef, a'.tmps.getD 231 undef, a'.tmps.getD 232 undef, a'.tmps.getD 233 undef, a'.tmps.getD 234 undef, a'.tmps.getD 235 undef, a'.tmps.getD 236 undef, a'.tmps.getD 237 undef, a'.tmps.getD 238 undef, a'.tmps.getD 239 undef, a'.tmps.getD 240 undef, a'.tmps.getD 241 undef, a'.tmps.getD 242 undef, a'.tmps.getD 243 undef, a'.tmps.getD 244 undef, a'.tmps.getD 245 undef, a'.tmps.getD 246 undef, a'.tmps.getD 247 undef, a'.tmps.getD 248 undef, a'.tmps.getD 249 undef, a'.tmps.getD 250 undef, a'.tmps.getD 251 undef, a'.tmps.getD 252 undef, a'.tmps.getD 253 undef, a'.tmps.getD 254 undef, a'.tmps.getD 255 undef, a'.tmps.getD 256 undef, a'.tmps.getD 257 undef, a'.tmps.getD 258 undef, a'.tmps.getD 259 undef, a'.tmps.getD 260 undef, a'.tmps.getD 261 undef, a'.tmps.getD 262 undef, a'.tmps.getD 263 undef, a'.tmps.getD 264 undef, a'.tmps.getD 265 undef, a'.tmps.getD 266 undef, a'.tmps.getD 267 undef, a'.tmps.getD 268 undef, a'.tmps.getD 269 undef, a'.tmps.getD 270 undef, a'.tmps.getD 271 undef, a'.tmps.getD 272 undef, a'.tmps.getD 273 undef, a'.tmps.getD 274 undef, a'.tmps.getD 275 undef, a'.tmps.getD 276 undef, a'.tmps.getD 277 undef, a'.tmps.getD 278 undef, a'.tmps.getD 279 undef, a'.tmps.getD 280 undef, .slice va n vc, .int .i64 (n : Int), .int .i64 (j : Int), a'.tmps.getD 284 undef, a'.tmps.getD 285 undef, a'.tmps.getD 286 undef, a'.tmps.getD 287 undef, a'.tmps.getD 288 undef, a'.tmps.getD 289 undef, a'.tmps.getD 290 undef, a'.tmps.getD 291 undef, a'.tmps.getD 292 undef, a'.tmps.getD 293 undef, a'.tmps.getD 294 undef, a'.tmps.getD 295 undef, a'.tmps.getD 296 undef, a'.tmps.getD 297 undef, a'.tmps.getD 298 undef, a'.tmps.getD 299 undef, a'.tmps.getD 300 undef, a'.tmps.getD 301 undef, a'.tmps.getD 302 undef, a'.tmps.getD 303 undef, a'.tmps.getD 304 undef, a'.tmps.getD 305 undef, a'.tmps.getD 306 undef, a'.tmps.getD 307 undef, a'.tmps.getD 308 undef, a'.tmps.getD 309 undef, a'.tmps.getD 310 undef, a'.tmps.getD 311 undef, a'.tmps.getD 312 undef, a'.tmps.getD 313 undef, a'.tmps.getD 314 undef, a'.tmps.getD 315 undef, a'.tmps.getD 316 undef, a'.tmps.getD 317 undef, a'.tmps.getD 318 undef, a'.tmps.getD 319 undef, a'.tmps.getD 320 undef, a'.tmps.getD 321 undef, a'.tmps.getD 322 undef, a'.tmps.getD 323 undef, a'.tmps.getD 324 undef, a'.tmps.getD 325 undef, a'.tmps.getD 326 undef, a'.tmps.getD 327 undef, a'.tmps.getD 328 undef, a'.tmps.getD 329 undef, a'.tmps.getD 330 undef, a'.tmps.getD 331 undef, a'.tmps.getD 332 undef, a'.tmps.getD 333 undef, a'.tmps.getD 334 undef, a'.tmps.getD 335 undef, a'.tmps.getD 336 undef, a'.tmps.getD 337 undef], defers := [] } ∧ j ≤ n ∧ Own w wr (Cells xb #[.int .i64 (N : Int), .slice va n vc] 48 :: Row 33 2 (.slice va n vc) n (cat gel F') :: Row 3 1 (.slice la ln lc) ln (irow .i64 LL) :: BagT 61 b N E' :: Cells B #[.int .u8 (qd : Int), .int .i64 qto, .slice qa ql qc, .int .i64 qi, .int .i64 qt, .int .u32 (qp : Int)] 36 :: (gfs F' ++ []))) (fun a' _ => n - (intOf (a'.tmps.getD 283 undef)).toNat) ?_ ?_
          · exact ⟨0, rfl, Nat.zero_le _, H5.out⟩
          · intro a' wr hI
            obtain ⟨j, hact, hj, hO⟩ := hI
            obtain ⟨u2, hu⟩ : ∃ u2 : Nat → Value, ∀ k, a'.tmps.getD k undef = u2 k := ⟨_, fun _ => rfl⟩
            simp only [hu] at hact
            clear hu
            subst hact
            clear H5
            by_cases hjn : j < n
            · obtain ⟨x, y, hx, hy, e1, e2, hb, h40⟩ := HT.out.at j (by rw [← HN.out.1]; exact hjn)
              obtain ⟨xa, xc, xt, xP⟩ := x
              obtain ⟨ya, yc, yt, yP⟩ := y
              simp only at e1 e2 hb h40
              subst e1 e2
              have hjn' : (j : Int) < (n : Int) := by omega
              obtain ⟨gv, vc', hv, _⟩ := row_shape hO.two.row (by omega)
              obtain ⟨rfl, _, rfl⟩ := Value.slice.inj hv
              obtain ⟨p0, p1⟩ := gcell hO.two HN.out.2.2.symm j _ hy
              simp only at p0 p1
              have hgl : gv < wr.heap.size := (hO.two.row.lt gv rfl).2
              have n2 : wr.heap.size ≠ gv := by omega
              have hTj : T[j]? = some xt := by rw [HN.out.2.1, List.getElem?_map, hx]; rfl
              have HY : Hid (F'[j]? = some ⟨ya, yc, xt, xP⟩) := hy
              have hO1 := (hO.allocC #[.int .i64 xt, .slice ya xP.length yc] 33).five
              have HC : Hid (Calls _ _ _ _ _) := bpeek_ok w _ _ b N E' hO1 j _ hx (by simp only; omega)
              simp only at HC
              clear hO hO1 hx hy hv
              go_wp2_with fail
              refine HC.out.mono ?_
              rintro e w5 ⟨a5, c5, rfl, hO⟩
              clear HC p0 p1 n2 hgl
              generalize wr.heap.size = bv at *
              have v0 := hO.three.cell 0
              have v1 := hO.three.cell 1
              have n3 : w5.heap.size ≠ bv := by have := hO.three.lt; omega
              have hU := hO.allocC #[.int .i64 xt, .slice a5 xP.length c5] 33
              have v0b := hU.four.cell 0
              have v1b := hU.four.cell 1
              simp only [List.getElem?_toArray, List.getElem?_cons_zero, List.getElem?_cons_succ] at v0 v1 v0b v1b
              have HC : Hid (Calls _ _ _ _ _) := same24 _ xt a5 c5 ya yc xP (Src.of_row hU.two.row) (Own.gsrc (A := [_, _, _, _, _, _, _, _]) HY.out hU)
              have H5 : Hid (Own w _ _) := hU
              clear hO hU
              go_wp2_with fail
              refine HC.out.mono ?_
              rintro e w6 ⟨rfl, hf⟩
              have hO := H5.out.quiet hf
              clear HC H5 hf v0 v1 v0b v1b n3
              have d0 := hO.four.cell 0
              have hO := hO.tail.tail.two.tail.back4
              have b1 := hO.five.cell 1
              simp only [List.getElem?_toArray, List.getElem?_cons_zero, List.getElem?_cons_succ] at d0 b1
              by_cases hto : xt = qto
              · have he : (xt == qto) = true := by simp [hto]
                have HTK : Hid (tosK qto T (j + 1) = tosK qto T j ++ [j]) := by
                  show _ = _
                  rw [tosK, hTj, if_pos (by rw [hto])]
                have HAT : Hid (LL[(tosK qto T j).length]? = some j) := by
                  show _ = _
                  rw [HLL.out]; exact tosK_at qto T j n hjn (by rw [hTj, hto])
                obtain ⟨tk, htk⟩ : ∃ tk, tk = (tosK qto T j).length := ⟨_, rfl⟩
                have htl : tk < ln := by rw [HLN.out, htk]; exact (List.getElem?_eq_some_iff.1 HAT.out).1
                have HTL : Hid ((tosK qto T (j + 1)).length = tk + 1) := by show _ = _; rw [HTK.out, List.length_append, htk]; rfl
                rw [← htk] at HAT ⊢
                obtain ⟨gl, cl, hv, _⟩ := row_shape hO.three.row (by omega)
                obtain ⟨rfl, _, rfl⟩ := Value.slice.inj hv
                have cl1 : w6.cell? ⟨gl, tk, none⟩ = some (.int .i64 (j : Int)) := by
                  rw [hO.three.row.cellAt _ (by omega), getElem?_irow, HAT.out]; rfl
                have htl1 : ¬ (ln : Int) ≤ (tk : Int) := by omega
                have htl2 : (tk : Int) < (ln : Int) := by omega
                have HO : Hid (Own w w6 _) := hO
                clear hO hTj hto hv htk
                go_wp2
                refine ⟨⟨j + 1, ?_, by omega, HO.out⟩, by simp [intOf]; omega⟩
                rw [HTL.out]
                rfl
              · have he : (xt == qto) = false := by simp [hto]
                have HTK : Hid (tosK qto T (j + 1) = tosK qto T j) := by
                  show _ = _
                  rw [tosK, hTj, if_neg (by simpa using hto)]
                have HO : Hid (Own w w6 _) := hO
                clear hO hTj
                go_wp2
                refine ⟨⟨j + 1, ?_, by omega, HO.out⟩, by simp [intOf]; omega⟩
                rw [HTK.out]
                rfl
            · have hjn' : ¬ (j : Int) < (n : Int) := by omega
              have e : j = n := by omega
              have HJN : Hid ((tosK qto T j).length = ln) := by show _ = _; rw [e, ← HLL.out, HLN.out]
              have HN0 : Hid (n = E'.length) := HN.out.1
              have b5 := blen w wr _ b N E' hO.four
              rw [← HN0.out] at b5
              have HC : Hid (∀ f : World, Fr Nobody wr f → Calls Try.prog 22 #[.pointer (some ⟨b, 0, none⟩)] f fun e w' => e = .returned (.int .i64 (n : Int)) ∧ w' = f) := fun f hf => by rw [HN0.out]; exact blen w f _ b N E' (hO.quiet hf).four
              have q2 := hO.cell 1
              simp only [List.getElem?_toArray, List.getElem?_cons_zero, List.getElem?_cons_succ] at q2
              have HO : Hid (Own w wr _) := hO
              rw [HJN.out]
              clear hO b5 e
              have HD : Hid (Calls _ _ _ _ _) := HC.out wr.drew (Fr.refl _ _).drew
              have he1 : ((n : Int) == (n : Int)) = true := by simp
              have he2 : ((ln : Int) == (ln : Int)) = true := by simp
              clear HC
              go_wp2
              go_region_held3 (fun w' => w'.cell? ⟨xb, 1, none⟩ = some (.slice va n vc)) (first | exact q2 | go_keep)
                (first
                  | (go_at_call 22; with_reducible refine HD.out.mono ?_; rintro e w9 ⟨rfl, rfl⟩))
              go_wp2
              refine ⟨⟨k + 1, E', F', rfl, by omega, HT.out, ?_⟩, by simp [intOf]; omega⟩
              refine Own.ex2.2 ⟨.slice va n vc, ?_⟩
              rw [← HN.out.2.2]
              exact HO.out.drew.four.four.tail.four.tail
      · have h80' : (80 : Int) ≤ (k : Int) := by omega
        have H2 : Hid (Fr Nobody w _) := hO.fr.alloc (.cells #[.int .u8 (qd : Int), .int .i64 qto, .slice qa ql qc, .int .i64 qi, .int .i64 qt, .int .u32 (qp : Int)] 36)
        clear hO
        go_wp2
        go_ret
        exact ⟨rfl, H2.out⟩
    · have hlt' : ¬ (k : Int) < (len : Int) := by omega
      have H2 : Hid (Fr Nobody w wr) := hO.fr
      clear hO
      go_wp2
      go_ret
      exact ⟨rfl, H2.out⟩
end Go.Proofs.Ytiphkndahoageaa
