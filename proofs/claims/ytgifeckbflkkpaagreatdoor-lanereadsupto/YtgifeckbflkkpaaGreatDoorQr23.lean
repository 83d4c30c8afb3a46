/- The list that the document's Patch works on, as it goes. -/
import Derived.Test.YtgifeckbflkkpaaGreatDoorQr22
import Derived.Test.YtgifeckbflkkpaaGreatDoorQr16
import Derived.Deep.CutBlock
import Derived.Test.YtgifeckbflkkpaaGreatDoorQr01
import Derived.Test.YtgifeckbflkkpaaGreatDoorQr21
namespace Go.Proofs.YtgifeckbflkkpaaGreatDoor
open Go.RowKit
set_option linter.unusedVariables false
set_option maxHeartbeats 8000000
set_option maxRecDepth 100000
theorem Own.entsRw {w0 w : World} {l : List Thing} {ao : Option Addr} {n cap : Nat} {L : List EnE} {xs : List Value} (h : Own w0 w (Row 60 2 (.slice ao n cap) n xs :: l)) (hn : L.length = n) (hxs : xs = cat EnE.cs L) (hc : ∀ x ∈ L,Cs w x.ao x.C) : EntsAt w ao L := by
 subst hxs
 refine ⟨?_,hc⟩
 have hr := h.row
 rcases Nat.eq_zero_or_pos n with h0 | h0
 ·exact .inl (List.eq_nil_of_length_eq_zero (by omega))
 ·obtain ⟨g,cp,hv,_⟩ := row_shape hr h0
  refine .inr ⟨g,0,(Value.slice.inj hv).1,fun i y hy => ?_⟩
  have hva := (Value.slice.inj hv).1
  rw [hva] at hr
  have hi := (List.getElem?_eq_some_iff.1 hy).1
  rw [Nat.zero_add,hr.cellAt _ (by omega),hr.cellAt _ (by omega)]
  exact ⟨cat_at EnE.cs 2 (fun _ => rfl) L i 0 y hy (by decide),cat_at EnE.cs 2 (fun _ => rfl) L i 1 y hy (by decide)⟩
theorem ents_lo {w0 w : World} {l : List Thing} {g n c : Nat} {N A B : List EnE} (h : Own w0 w (Row 60 2 (.slice (some ⟨g,0,none⟩) n c) n (cat EnE.cs N) :: l)) (hn : N.length = n) (e : N = A ++ B) : ∀ j u,(cat EnE.cs A)[j]? = some u → w.cell? ((⟨g,0,none⟩ : Addr).add j) = some u := fun j u hu => by
 have hj := (List.getElem?_eq_some_iff.1 hu).1
 have hl := length_cat EnE.cs 2 (fun _ => rfl) A
 have hN := congrArg List.length e
 rw [List.length_append] at hN
 rw [addr_add,Nat.zero_add,h.row.cellAt j (by omega),e,cat_append,List.getElem?_append_left hj,hu]
theorem ents_hi {w0 w : World} {l : List Thing} {g n c k : Nat} {N A B : List EnE} (h : Own w0 w (Row 60 2 (.slice (some ⟨g,0,none⟩) n c) n (cat EnE.cs N) :: l)) (hn : N.length = n) (e : N = A ++ B) (hk : k = A.length * 2) : ∀ j u,(cat EnE.cs B)[j]? = some u → w.cell? ((⟨g,k,none⟩ : Addr).add j) = some u := fun j u hu => by
 have hj := (List.getElem?_eq_some_iff.1 hu).1
 have hl := length_cat EnE.cs 2 (fun _ => rfl) A
 have hl2 := length_cat EnE.cs 2 (fun _ => rfl) B
 have hN := congrArg List.length e
 rw [List.length_append] at hN
 rw [addr_add,h.row.cellAt (k + j) (by omega),e,cat_append,List.getElem?_append_right (by omega)]
 rw [show k + j - (cat EnE.cs A).length = j by omega,hu]
theorem inBlock_then (id : Nat) (K : Act → World → Prop) (Q : Exit → Act → World → Prop) : Exit.inBlock id (Exit.then K Q) = Exit.then K (Exit.inBlock id (Exit.then K Q)) := by
 funext e a w
 cases e <;> rfl
theorem shr_bit (n k : Nat) : ((((n : Int) / 2 ^ k).tmod 2) == 0) = decide (n / 2 ^ k % 2 = 0) := by
 have e : ((n : Int) / 2 ^ k) = ((n / 2 ^ k : Nat) : Int) := by simp
 rw [e]
 generalize n / 2 ^ k = m
 rw [Int.tmod_eq_emod_of_nonneg (by omega)]
 rw [Bool.eq_iff_iff]
 simp only [beq_iff_eq,decide_eq_true_eq]
 omega
def qP (R : Act → World → Prop) : Exit → Act → World → Prop
 | .ret,a,w => R a w
 | _,_,_ => False
theorem wp_qP {P : Program} {s : Code} {K : Act → World → Prop} {Q' : Exit → Act → World → Prop} {a : Act} {w : World} (h : s.wp P (Exit.then K (qP (Q' .ret))) a w) : s.wp P (Exit.then K Q') a w := by
 refine wp_mono h ?_
 intro e a' w' hq
 cases e with
 | normal => exact hq
 | ret => exact hq
 | exit id => exact hq.elim
 | goto l => exact hq.elim
 | panic ch => exact hq.elim
 | outgrown => exact hq.elim
def cfst : Code → Code
 | .seq a _ => a
 | c => c
def csnd : Code → Code
 | .seq _ b => b
 | c => c
def cinn : Code → Code
 | .block _ c => c
 | .loop c => c
 | c => c
structure NowI (w0 : World) (X T : List Thing) (N : List EnE) (B : Nat) : Prop where
 cs : ∀ w',Own w0 w' (X ++ T) → ∀ x ∈ N,Cs w' x.ao x.C
 inn : EIn N
 sz : esz N ≤ B
theorem NowI.ents {w0 w : World} {X T : List Thing} {N : List EnE} {B c : Nat} {a : Option Addr} (h : NowI w0 X T N B) (hO : Own w0 w (Row 60 2 (.slice a N.length c) N.length (cat EnE.cs N) :: (X ++ T))) : EntsAt w a N := hO.entsRw rfl rfl (h.cs w hO.tail)
theorem esz_app (A B : List EnE) : esz (A ++ B) = esz A + esz B := by unfold esz; rw [csz_append,List.length_append]; omega
theorem esz_one (x : EnE) : esz [x] = 1 + x.C.length := by simp [esz,csz]
theorem NowI.cut {w0 : World} {X T : List Thing} {N : List EnE} {B : Nat} (h : NowI w0 X T N B) {i : Nat} {x : EnE} (hx : N[i]? = some x) : NowI w0 X T (N.take i ++ N.drop (i + 1)) B where
 cs := fun w' hw y hy => by
  rcases List.mem_append.1 hy with hy | hy
  ·exact h.cs w' hw y (List.mem_of_mem_take hy)
  ·exact h.cs w' hw y (List.mem_of_mem_drop hy)
 inn := fun y hy => by
  rcases List.mem_append.1 hy with hy | hy
  ·exact h.inn y (List.mem_of_mem_take hy)
  ·exact h.inn y (List.mem_of_mem_drop hy)
 sz := by
  have hc := congrArg esz (cut_at hx)
  have e : ∀ (y : EnE) (l : List EnE),y :: l = [y] ++ l := fun _ _ => rfl
  rw [e,esz_app,esz_app,esz_one] at hc
  rw [esz_app]
  have := h.sz
  omega
theorem esz_set {N : List EnE} {i : Nat} {x : EnE} (hx : N[i]? = some x) (y : EnE) : esz (N.set i y) + x.C.length = esz N + y.C.length := by
 have hi := (List.getElem?_eq_some_iff.1 hx).1
 have hc := congrArg esz (cut_at hx)
 have e : ∀ (y : EnE) (l : List EnE),y :: l = [y] ++ l := fun _ _ => rfl
 rw [e,esz_app,esz_app,esz_one] at hc
 rw [List.set_eq_take_append_cons_drop,if_pos hi,e,esz_app,esz_app,esz_one]
 omega
theorem NowI.set {w0 : World} {X T : List Thing} {N : List EnE} {B : Nat} (h : NowI w0 X T N B) {i : Nat} {x : EnE} (hx : N[i]? = some x) (Y : List Thing) (y : EnE) (hid : y.id = x.id) (hk : ∀ q ∈ y.C,q.k < 256) (m : Nat) (hm : y.C.length ≤ x.C.length + m) (hY : ∀ w',Own w0 w' (Y ++ (X ++ T)) → Cs w' y.ao y.C) : NowI w0 (Y ++ X) T (N.set i y) (B + m) where
 cs := fun w' hw z hz => by
  rw [List.append_assoc] at hw
  rcases List.mem_or_eq_of_mem_set hz with hz | rfl
  ·exact h.cs w' hw.dropA z hz
  ·exact hY w' hw
 inn := fun z hz => by
  rcases List.mem_or_eq_of_mem_set hz with hz | rfl
  ·exact h.inn z hz
  ·exact ⟨by rw [hid]; exact (h.inn x (List.mem_of_getElem? hx)).1,hk⟩
 sz := by have := esz_set hx y; have := h.sz; omega
theorem insc_kinds {C : List Cp} {c : Cp} (h : ∀ q ∈ C,q.k < 256) (hc : c.k < 256) : ∀ q ∈ insc C c,q.k < 256 := fun q hq => by
 unfold insc at hq
 rcases List.mem_append.1 hq with hq | hq
 ·exact h q ((List.takeWhile_sublist _).subset hq)
 ·rcases List.mem_cons.1 hq with rfl | hq
  ·exact hc
  ·exact h q ((List.dropWhile_sublist _).subset (List.mem_filter.1 hq).1)
theorem outk_kinds {C : List Cp} (k : Nat) (h : ∀ q ∈ C,q.k < 256) : ∀ q ∈ outk C k,q.k < 256 := fun q hq => h q (List.mem_filter.1 hq).1
theorem outk_len (C : List Cp) (k : Nat) : (outk C k).length ≤ C.length := List.length_filter_le _ _
def pkAt : List Thing → Nat → Option Thing
 | [],_ => none
 | a :: _,0 => some a
 | _ :: l,n + 1 => pkAt l n
def pks (L : List Thing) : List Nat → List Thing
 | [] => []
 | i :: is => match pkAt L i with
  | some a => a :: pks L is
  | none => pks L is
def tkT : Nat → List Thing → List Thing
 | 0,_ => []
 | _,[] => []
 | n + 1,a :: l => a :: tkT n l
def dpT : Nat → List Thing → List Thing
 | 0,l => l
 | _,[] => []
 | n + 1,_ :: l => dpT n l
theorem tkdp : ∀ (n : Nat) (l : List Thing),tkT n l ++ dpT n l = l
 | 0,l => rfl
 | n + 1,[] => rfl
 | n + 1,a :: l => by show a :: (tkT n l ++ dpT n l) = _; rw [tkdp n l]
theorem pkAt_get : ∀ (L : List Thing) (i : Nat),pkAt L i = L[i]?
 | [],i => by simp [pkAt]
 | a :: l,0 => by simp [pkAt]
 | a :: l,n + 1 => by simp [pkAt,pkAt_get l n]
theorem pks_map (L : List Thing) : ∀ is : List Nat,pks L is = is.filterMap (fun i => L[i]?)
 | [] => rfl
 | i :: is => by
  rw [pks,pkAt_get,List.filterMap_cons,pks_map L is]
  cases L[i]? <;> rfl
theorem range_get (L : List Thing) : (List.range L.length).filterMap (fun i => L[i]?) = L := by
 apply List.ext_getElem?
 intro i
 induction L generalizing i with
 | nil => simp
 | cons a l ih =>
  rw [List.length_cons,List.range_succ_eq_map,List.filterMap_cons]
  simp only [List.getElem?_cons_zero]
  cases i with
  | zero => rfl
  | succ i =>
   rw [List.getElem?_cons_succ,List.getElem?_cons_succ,List.filterMap_map]
   have e : ((fun i => (a :: l)[i]?) ∘ Nat.succ) = fun i => l[i]? := by funext j; simp
   rw [e]
   exact ih i
theorem Own.dropL {w0 w : World} {A B : List Thing} (h : Own w0 w (A ++ B)) : Own w0 w A := by
 have h2 : Own w0 w (B ++ A) := h.perm List.perm_append_comm
 clear h
 induction B with
 | nil => exact h2
 | cons b B ih => exact ih h2.tail
theorem Own.sel {w0 w : World} {L : List Thing} (h : Own w0 w L) (k : Nat) (is : List Nat) (hn : is.Nodup) : Own w0 w (pks (tkT k L) is ++ dpT k L) := by
 rw [← tkdp k L] at h
 generalize dpT k L = D at *
 generalize tkT k L = X at *
 clear L
 rw [pks_map]
 have hp : (is.filterMap (fun i => X[i]?) ++ ((List.range X.length).filter (fun i => decide (i ∉ is))).filterMap (fun i => X[i]?)).Perm X := by
  have e1 : is.filterMap (fun i => X[i]?) = (is.filter (fun i => decide (i < X.length))).filterMap (fun i => X[i]?) := by
   rw [List.filterMap_filter]
   congr 1
   funext i
   by_cases c : i < X.length
   ·simp [c]
   ·simp [c]
  rw [e1,← List.filterMap_append]
  have hq : (is.filter (fun i => decide (i < X.length)) ++ (List.range X.length).filter (fun i => decide (i ∉ is))).Perm (List.range X.length) := by
   refine (List.perm_ext_iff_of_nodup ?_ List.nodup_range).2 (fun a => ?_)
   ·rw [List.nodup_append]
    refine ⟨hn.filter _,List.nodup_range.filter _,?_⟩
    rintro a ha b hb rfl
    have h1 := (List.mem_filter.1 ha).1
    have h2 := (List.mem_filter.1 hb).2
    simp at h2
    exact h2 h1
   ·rw [List.mem_append,List.mem_filter,List.mem_filter,List.mem_range]
    by_cases c : a ∈ is
    ·simp [c]
    ·simp [c]
  have := hq.filterMap (fun i => X[i]?)
  rw [range_get] at this
  exact this
 have h2 : Own w0 w ((is.filterMap (fun i => X[i]?) ++ D) ++ ((List.range X.length).filter (fun i => decide (i ∉ is))).filterMap (fun i => X[i]?)) := by
  refine h.perm ((List.Perm.append_right D hp.symm).trans ?_)
  rw [List.append_assoc,List.append_assoc]
  exact List.Perm.append_left _ List.perm_append_comm
 exact h2.dropL
example (w0 w : World) (A B C D : Thing) (l : List Thing) (h : Own w0 w (A :: B :: C :: D :: l)) : Own w0 w (D :: A :: C :: l) := h.sel 4 [3,0,2] (by decide)
def cthn : Code → Code
 | .cond _ a _ => a
 | c => c
def cels : Code → Code
 | .cond _ _ b => b
 | c => c
theorem SrcO.mid {w0 w : World} {b : Nat} {L : List Bool} {bad : Bool} {A B : Thing} {l : List Thing} (h : SrcO w0 w b L bad (A :: B :: l)) : SrcO w0 w b L bad (B :: A :: l) := h.perm (List.Perm.swap _ _ _)
theorem ro_gone (w0 W : World) (Z : List Thing) (v0 v4 v7 : Value) (aw : Option Addr) (nw cw b bd : Nat) (P : List Nat) (tn : Nat) (G : List Nat) (R : List Bool) (gl : Nat) (hgl : gl ≤ 10000) (HN : Hid (G.length = gl ∧ G.Pairwise (· < ·) ∧ (∀ i ∈ G,0 < i ∧ i < 4294967296) ∧ (bitsB P).drop tn = idsB 0 G ++ R ∧ (bitsB P).length ≤ 100000)) (H : Hid (SrcO w0 W b ((bitsB P).drop tn) false (Cells bd #[.slice none 0 0,.slice none 0 0,.slice none 0 0] 106 :: Z))) (J K' : Act → World → Prop) (Q' : Exit → Act → World → Prop) (HJ : Hid (∀ a' wc,(∃ (ga : Option Addr) (gc : Nat),a' = { tmps := #[v0,.slice aw nw cw,gQ a' 2,gQ a' 3,v4,gQ a' 5,gQ a' 6,v7,gQ a' 8,gQ a' 9,gQ a' 10,.pointer (some ⟨b,0,none⟩),gQ a' 12,.pointer (some ⟨bd,0,none⟩),gQ a' 14,gQ a' 15,gQ a' 16,gQ a' 17,gQ a' 18,gQ a' 19,gQ a' 20,gQ a' 21,gQ a' 22,gQ a' 23,gQ a' 24,gQ a' 25,gQ a' 26,gQ a' 27,gQ a' 28,gQ a' 29,gQ a' 30,gQ a' 31,gQ a' 32,gQ a' 33,gQ a' 34,gQ a' 35,gQ a' 36,gQ a' 37,gQ a' 38,gQ a' 39,gQ a' 40,gQ a' 41,gQ a' 42,gQ a' 43,gQ a' 44,gQ a' 45,gQ a' 46,gQ a' 47,gQ a' 48,gQ a' 49,gQ a' 50,gQ a' 51,gQ a' 52,gQ a' 53,gQ a' 54,gQ a' 55,gQ a' 56,gQ a' 57,gQ a' 58,gQ a' 59,gQ a' 60,gQ a' 61,gQ a' 62,gQ a' 63,gQ a' 64,gQ a' 65,gQ a' 66,gQ a' 67,gQ a' 68,gQ a' 69,gQ a' 70,gQ a' 71,gQ a' 72,gQ a' 73,gQ a' 74,gQ a' 75,gQ a' 76,gQ a' 77,gQ a' 78,gQ a' 79,gQ a' 80,gQ a' 81,gQ a' 82,gQ a' 83,gQ a' 84,gQ a' 85,gQ a' 86,gQ a' 87,gQ a' 88,gQ a' 89,gQ a' 90,gQ a' 91,gQ a' 92,gQ a' 93,gQ a' 94,gQ a' 95,gQ a' 96,gQ a' 97,gQ a' 98,gQ a' 99,gQ a' 100,gQ a' 101,gQ a' 102,gQ a' 103,gQ a' 104,gQ a' 105,gQ a' 106,gQ a' 107,gQ a' 108,gQ a' 109,gQ a' 110,gQ a' 111,gQ a' 112,gQ a' 113,gQ a' 114,gQ a' 115,gQ a' 116,gQ a' 117,gQ a' 118,gQ a' 119,gQ a' 120,gQ a' 121,gQ a' 122,gQ a' 123,gQ a' 124,gQ a' 125,gQ a' 126,gQ a' 127,gQ a' 128,gQ a' 129,gQ a' 130,gQ a' 131,gQ a' 132,gQ a' 133,gQ a' 134,gQ a' 135,gQ a' 136,gQ a' 137,gQ a' 138,gQ a' 139,gQ a' 140,gQ a' 141,gQ a' 142,gQ a' 143,gQ a' 144,gQ a' 145,gQ a' 146,gQ a' 147,gQ a' 148,gQ a' 149,gQ a' 150,gQ a' 151,gQ a' 152,gQ a' 153,gQ a' 154,gQ a' 155,gQ a' 156,gQ a' 157,gQ a' 158,gQ a' 159,gQ a' 160,gQ a' 161,gQ a' 162,gQ a' 163,gQ a' 164,gQ a' 165,gQ a' 166,gQ a' 167,gQ a' 168,gQ a' 169,gQ a' 170,gQ a' 171,gQ a' 172,gQ a' 173,gQ a' 174,gQ a' 175,gQ a' 176,gQ a' 177,gQ a' 178,gQ a' 179,gQ a' 180,gQ a' 181,gQ a' 182,gQ a' 183,gQ a' 184,gQ a' 185,gQ a' 186,gQ a' 187,gQ a' 188,gQ a' 189,gQ a' 190,gQ a' 191,gQ a' 192,gQ a' 193,gQ a' 194,gQ a' 195,gQ a' 196,gQ a' 197,gQ a' 198,gQ a' 199,gQ a' 200,gQ a' 201,gQ a' 202,gQ a' 203,gQ a' 204,gQ a' 205,gQ a' 206,gQ a' 207,gQ a' 208,gQ a' 209,gQ a' 210,gQ a' 211,gQ a' 212,gQ a' 213,gQ a' 214,gQ a' 215,gQ a' 216,gQ a' 217,gQ a' 218,gQ a' 219,gQ a' 220,gQ a' 221,gQ a' 222,gQ a' 223,gQ a' 224,gQ a' 225],defers := [] } ∧ SrcO w0 wc b ((bitsB P).drop (tn + (idsB 0 G).length)) false (Cells bd #[.slice ga gl gc,.slice none 0 0,.slice none 0 0] 106 :: Row 57 1 (.slice ga gl gc) gl (irow .u32 G) :: Z)) → J a' wc)) (hK' : ∀ a' w',Met J a' w' → K' a' w') (a' : Act) (hact : a' = { tmps := #[v0,.slice aw nw cw,gQ a' 2,gQ a' 3,v4,gQ a' 5,gQ a' 6,v7,gQ a' 8,gQ a' 9,gQ a' 10,.pointer (some ⟨b,0,none⟩),gQ a' 12,.pointer (some ⟨bd,0,none⟩),.int .u32 0,.int .u64 (gl : Int),gQ a' 16,gQ a' 17,gQ a' 18,gQ a' 19,gQ a' 20,gQ a' 21,gQ a' 22,gQ a' 23,gQ a' 24,gQ a' 25,gQ a' 26,gQ a' 27,gQ a' 28,gQ a' 29,gQ a' 30,gQ a' 31,gQ a' 32,gQ a' 33,gQ a' 34,gQ a' 35,gQ a' 36,gQ a' 37,gQ a' 38,gQ a' 39,gQ a' 40,gQ a' 41,gQ a' 42,gQ a' 43,gQ a' 44,gQ a' 45,gQ a' 46,gQ a' 47,gQ a' 48,gQ a' 49,gQ a' 50,gQ a' 51,gQ a' 52,gQ a' 53,gQ a' 54,gQ a' 55,gQ a' 56,gQ a' 57,gQ a' 58,gQ a' 59,gQ a' 60,gQ a' 61,gQ a' 62,gQ a' 63,gQ a' 64,gQ a' 65,gQ a' 66,gQ a' 67,gQ a' 68,gQ a' 69,gQ a' 70,gQ a' 71,gQ a' 72,gQ a' 73,gQ a' 74,gQ a' 75,gQ a' 76,gQ a' 77,gQ a' 78,gQ a' 79,gQ a' 80,gQ a' 81,gQ a' 82,gQ a' 83,gQ a' 84,gQ a' 85,gQ a' 86,gQ a' 87,gQ a' 88,gQ a' 89,gQ a' 90,gQ a' 91,gQ a' 92,gQ a' 93,gQ a' 94,gQ a' 95,gQ a' 96,gQ a' 97,gQ a' 98,gQ a' 99,gQ a' 100,gQ a' 101,gQ a' 102,gQ a' 103,gQ a' 104,gQ a' 105,gQ a' 106,gQ a' 107,gQ a' 108,gQ a' 109,gQ a' 110,gQ a' 111,gQ a' 112,gQ a' 113,gQ a' 114,gQ a' 115,gQ a' 116,gQ a' 117,gQ a' 118,gQ a' 119,gQ a' 120,gQ a' 121,gQ a' 122,gQ a' 123,gQ a' 124,gQ a' 125,gQ a' 126,gQ a' 127,gQ a' 128,gQ a' 129,gQ a' 130,gQ a' 131,gQ a' 132,gQ a' 133,gQ a' 134,gQ a' 135,gQ a' 136,gQ a' 137,gQ a' 138,gQ a' 139,gQ a' 140,gQ a' 141,gQ a' 142,gQ a' 143,gQ a' 144,gQ a' 145,gQ a' 146,gQ a' 147,gQ a' 148,gQ a' 149,gQ a' 150,gQ a' 151,gQ a' 152,gQ a' 153,gQ a' 154,gQ a' 155,gQ a' 156,gQ a' 157,gQ a' 158,gQ a' 159,gQ a' 160,gQ a' 161,gQ a' 162,gQ a' 163,gQ a' 164,gQ a' 165,gQ a' 166,gQ a' 167,gQ a' 168,gQ a' 169,gQ a' 170,gQ a' 171,gQ a' 172,gQ a' 173,gQ a' 174,gQ a' 175,gQ a' 176,gQ a' 177,gQ a' 178,gQ a' 179,gQ a' 180,gQ a' 181,gQ a' 182,gQ a' 183,gQ a' 184,gQ a' 185,gQ a' 186,gQ a' 187,gQ a' 188,gQ a' 189,gQ a' 190,gQ a' 191,gQ a' 192,gQ a' 193,gQ a' 194,gQ a' 195,gQ a' 196,gQ a' 197,gQ a' 198,gQ a' 199,gQ a' 200,gQ a' 201,gQ a' 202,gQ a' 203,gQ a' 204,gQ a' 205,gQ a' 206,gQ a' 207,gQ a' 208,gQ a' 209,gQ a' 210,gQ a' 211,gQ a' 212,gQ a' 213,gQ a' 214,gQ a' 215,gQ a' 216,gQ a' 217,gQ a' 218,gQ a' 219,gQ a' 220,gQ a' 221,gQ a' 222,gQ a' 223,gQ a' 224,gQ a' 225],defers := [] }) : (csnd (cfst (csnd (csnd (csnd (cthn (csnd (cels (csnd (cinn (csnd (cfst (csnd (csnd (csnd (csnd (csnd (csnd (csnd ((Tryz.f15.body).getD .skip)))))))))))))))))))).wp Tryz.prog (Exit.then K' Q') a' W := by
 obtain ⟨i0,hi,hz0,hz1,hz2⟩ := info3w Tryz.infoIDk
 obtain ⟨u,hu⟩ : ∃ u : Nat → Value,∀ k,gQ a' k = u k := ⟨_,fun _ => rfl⟩
 simp only [hu] at hact
 clear hu
 subst hact
 dsimp only [cfst,csnd,cinn,cthn,cels,Tryz.f15,Option.getD]
 go_wp2
 refine wp_loop (fun a' wr => ∃ (j r : Nat) (ga : Option Addr) (gc : Nat),a' = { tmps := #[v0,.slice aw nw cw,gQ a' 2,gQ a' 3,v4,gQ a' 5,gQ a' 6,v7,gQ a' 8,gQ a' 9,gQ a' 10,.pointer (some ⟨b,0,none⟩),gQ a' 12,.pointer (some ⟨bd,0,none⟩),.int .u32 ((lastI 0 (G.take j) : Nat) : Int),.int .u64 (r : Int),gQ a' 16,gQ a' 17,gQ a' 18,gQ a' 19,gQ a' 20,gQ a' 21,gQ a' 22,gQ a' 23,gQ a' 24,gQ a' 25,gQ a' 26,gQ a' 27,gQ a' 28,gQ a' 29,gQ a' 30,gQ a' 31,gQ a' 32,gQ a' 33,gQ a' 34,gQ a' 35,gQ a' 36,gQ a' 37,gQ a' 38,gQ a' 39,gQ a' 40,gQ a' 41,gQ a' 42,gQ a' 43,gQ a' 44,gQ a' 45,gQ a' 46,gQ a' 47,gQ a' 48,gQ a' 49,gQ a' 50,gQ a' 51,gQ a' 52,gQ a' 53,gQ a' 54,gQ a' 55,gQ a' 56,gQ a' 57,gQ a' 58,gQ a' 59,gQ a' 60,gQ a' 61,gQ a' 62,gQ a' 63,gQ a' 64,gQ a' 65,gQ a' 66,gQ a' 67,gQ a' 68,gQ a' 69,gQ a' 70,gQ a' 71,gQ a' 72,gQ a' 73,gQ a' 74,gQ a' 75,gQ a' 76,gQ a' 77,gQ a' 78,gQ a' 79,gQ a' 80,gQ a' 81,gQ a' 82,gQ a' 83,gQ a' 84,gQ a' 85,gQ a' 86,gQ a' 87,gQ a' 88,gQ a' 89,gQ a' 90,gQ a' 91,gQ a' 92,gQ a' 93,gQ a' 94,gQ a' 95,gQ a' 96,gQ a' 97,gQ a' 98,gQ a' 99,gQ a' 100,gQ a' 101,gQ a' 102,gQ a' 103,gQ a' 104,gQ a' 105,gQ a' 106,gQ a' 107,gQ a' 108,gQ a' 109,gQ a' 110,gQ a' 111,gQ a' 112,gQ a' 113,gQ a' 114,gQ a' 115,gQ a' 116,gQ a' 117,gQ a' 118,gQ a' 119,gQ a' 120,gQ a' 121,gQ a' 122,gQ a' 123,gQ a' 124,gQ a' 125,gQ a' 126,gQ a' 127,gQ a' 128,gQ a' 129,gQ a' 130,gQ a' 131,gQ a' 132,gQ a' 133,gQ a' 134,gQ a' 135,gQ a' 136,gQ a' 137,gQ a' 138,gQ a' 139,gQ a' 140,gQ a' 141,gQ a' 142,gQ a' 143,gQ a' 144,gQ a' 145,gQ a' 146,gQ a' 147,gQ a' 148,gQ a' 149,gQ a' 150,gQ a' 151,gQ a' 152,gQ a' 153,gQ a' 154,gQ a' 155,gQ a' 156,gQ a' 157,gQ a' 158,gQ a' 159,gQ a' 160,gQ a' 161,gQ a' 162,gQ a' 163,gQ a' 164,gQ a' 165,gQ a' 166,gQ a' 167,gQ a' 168,gQ a' 169,gQ a' 170,gQ a' 171,gQ a' 172,gQ a' 173,gQ a' 174,gQ a' 175,gQ a' 176,gQ a' 177,gQ a' 178,gQ a' 179,gQ a' 180,gQ a' 181,gQ a' 182,gQ a' 183,gQ a' 184,gQ a' 185,gQ a' 186,gQ a' 187,gQ a' 188,gQ a' 189,gQ a' 190,gQ a' 191,gQ a' 192,gQ a' 193,gQ a' 194,gQ a' 195,gQ a' 196,gQ a' 197,gQ a' 198,gQ a' 199,gQ a' 200,gQ a' 201,gQ a' 202,gQ a' 203,gQ a' 204,gQ a' 205,gQ a' 206,gQ a' 207,gQ a' 208,gQ a' 209,gQ a' 210,gQ a' 211,gQ a' 212,gQ a' 213,gQ a' 214,gQ a' 215,gQ a' 216,gQ a' 217,gQ a' 218,gQ a' 219,gQ a' 220,gQ a' 221,gQ a' 222,gQ a' 223,gQ a' 224,gQ a' 225],defers := [] } ∧ j + r = gl ∧ SrcO w0 wr b ((bitsB P).drop (tn + (idsB 0 (G.take j)).length)) false (Cells bd #[.slice ga j gc,.slice none 0 0,.slice none 0 0] 106 :: Row 57 1 (.slice ga j gc) j (irow .u32 (G.take j)) :: Z)) (fun a' _ => (intOf (a'.tmps.getD 15 undef)).toNat) ?_ ?_
 ·obtain ⟨sv,hO,hB⟩ := H.out
  exact ⟨0,gl,none,0,rfl,by omega,sv,(hO.two.nilRow _ _).sel 3 [2,1,0] (by decide),hB⟩
 ·intro a' wr hI
  obtain ⟨j,r,ga,gc,hact,hj,hO⟩ := hI
  obtain ⟨u2,hu⟩ : ∃ u2 : Nat → Value,∀ k,gQ a' k = u2 k := ⟨_,fun _ => rfl⟩
  simp only [hu] at hact
  clear hu
  subst hact
  clear H
  have p1 := hO.bad
  by_cases hlt : 0 < r
  ·obtain ⟨i,hi2⟩ : ∃ i,G[j]? = some i := ⟨_,List.getElem?_eq_getElem (by rw [HN.out.1]; omega)⟩
   have hlt' : (0 : Int) < (r : Int) := by omega
   have htk : G.take (j + 1) = G.take j ++ [i] := by rw [List.take_add_one,hi2]; rfl
   have hil := (HN.out.2.2.1 i (List.mem_of_getElem? hi2)).2
   have hla : lastI 0 (G.take j) < i := lastI_lt (by rw [← htk]; exact HN.out.2.1.sublist (List.take_sublist _ _)) (fun x hx => (HN.out.2.2.1 x (by rw [← htk] at hx; exact List.mem_of_mem_take hx)).1)
   have hd0 := drop_next (show (bitsB P).drop tn = idsB 0 (G.take j) ++ (idB (lastI 0 (G.take j)) i ++ (idsB i (G.drop (j + 1)) ++ R)) by rw [HN.out.2.2.2.1,idsB_at hi2]; simp only [List.append_assoc]) rfl
   have hd1 := drop_next hd0 rfl
   have HP : Hid (Calls _ _ _ _ _) := sid w0 wr _ b _ ((bitsB P).drop (tn + (idsB 0 (G.take j)).length + (idB (lastI 0 (G.take j)) i).length)) (lastI 0 (G.take j)) i hO hla hil (by rw [hd1]; exact hd0) (by rw [List.length_drop]; have := HN.out.2.2.2.2; omega)
   have HTK : Hid (tn + (idsB 0 (G.take (j + 1))).length = tn + (idsB 0 (G.take j)).length + (idB (lastI 0 (G.take j)) i).length ∧ lastI 0 (G.take (j + 1)) = i ∧ irow .u32 (G.take (j + 1)) = irow .u32 (G.take j) ++ [.int .u32 (i : Int)]) := by
    rw [htk,idsB_app,List.length_append]
    refine ⟨by simp [idsB]; omega,lastI_snoc _ _ _,by simp [irow]⟩
   obtain ⟨la,hlaE⟩ : ∃ la,la = lastI 0 (G.take j) := ⟨_,rfl⟩
   rw [← hlaE] at HP HTK ⊢
   obtain ⟨TT,hTT⟩ : ∃ TT,TT = tn + (idsB 0 (G.take j)).length + (idB la i).length := ⟨_,rfl⟩
   rw [← hTT] at HP HTK
   clear hO hla hlaE htk hd0 hd1 hi2 hTT
   go_wp2_with fail
   refine HP.out.mono ?_
   rintro e w2 ⟨rfl,h3⟩
   have q0 := h3.cellH 0
   simp at q0
   have H3 : Hid (SrcO w0 w2 b _ false _) := h3
   clear h3 HP p1
   go_wp2_with (at_builtin; refine append1_src rfl _ _ 103 rfl 57 i0 (.int .u32 0) 1 4 Tryz.underlying103 hi hz0 hz1 hz2 rfl (by decide) (by decide) _ _ _ rfl H3.out.mid _ #[.int .u32 (i : Int)] (by simp) rfl rfl (by intro u hu; simp at hu; subst hu; rfl) (by unfold maxLen; omega) (by omega) ?_)
   intro g6 c6 w6 h6
   have h6 := h6.mid
   have z0 := h6.fzH 0
   have y0 := h6.cellH 0
   simp at y0
   have h7 := h6.setH (by decide) 0 (.slice (some ⟨g6,0,none⟩) (j + 1) c6)
   simp at h7
   have H7 : Hid (SrcO w0 _ b _ false _) := h7
   clear h6 h7 H3
   go_wp2
   refine ⟨⟨j + 1,r - 1,some ⟨g6,0,none⟩,c6,?_,by omega,?_⟩,by simp [intOf]; omega⟩
   ·rw [HTK.out.2.1]
    have e : ((r - 1 : Nat) : Int) = (r : Int) - 1 := by omega
    rw [e]
    rfl
   ·rw [HTK.out.1,HTK.out.2.2]
    exact H7.out
  ·have hr0 : r = 0 := by omega
   subst hr0
   have hjg : j = gl := by omega
   subst hjg
   rw [List.take_of_length_le (by rw [HN.out.1]; exact Nat.le_refl _)] at hO
   have HO : Hid (SrcO w0 wr b _ false _) := hO
   clear hO
   go_wp2
   exact Met.intro (HJ.out _ _ ⟨ga,gc,rfl,HO.out⟩)
end Go.Proofs.YtgifeckbflkkpaaGreatDoor
