/- Entities as bits: the pen writes lists of IDs and of entities. -/
import Derived.Test.YtgifeckbflkkpaaGreatDoorQf13
import Derived.Test.YtgifeckbflkkpaaGreatDoorQf28
namespace Go.Proofs.YtgifeckbflkkpaaGreatDoor
open Go.RowKit
set_option linter.unusedVariables false
set_option maxHeartbeats 4000000
set_option maxRecDepth 100000
def idB (a i : Nat) : List Bool := var (i - a - 1)
def idsB : Nat → List Nat → List Bool
 | _,[] => []
 | a,i :: t => idB a i ++ idsB i t
def cpB (q : Cp) : List Bool := cb q.k (f3 q.a q.b q.c) (cnt q.k)
def cpsB : List Cp → List Bool
 | [] => []
 | q :: t => cpB q ++ cpsB t
def entB (a : Nat) (x : En) : List Bool := idB a x.1 ++ (bitsN 5 (msk x.2) ++ cpsB x.2)
def entsB : Nat → List En → List Bool
 | _,[] => []
 | a,x :: t => entB a x ++ entsB x.1 t
theorem idB_le (a i : Nat) (h : i < 4294967296) : (idB a i).length ≤ 80 := by
 unfold idB
 rw [length_var]
 have := grp32 (i - a - 1) (by omega)
 omega
theorem cpsB_app (A B : List Cp) : cpsB (A ++ B) = cpsB A ++ cpsB B := by
 induction A with
 | nil => rfl
 | cons q t ih => simp [cpsB,ih]
theorem cpB_le (q : Cp) : (cpB q).length ≤ 60 := by
 unfold cpB
 rw [length_cb]
 have h1 := bsum_le q.k (cnt q.k) (Nat.le_refl _)
 have h2 := cnt_le q.k
 omega
theorem cpsB_le (C : List Cp) : (cpsB C).length ≤ 60 * C.length := by
 induction C with
 | nil => simp [cpsB]
 | cons q t ih =>
  have := cpB_le q
  simp only [cpsB,List.length_append,List.length_cons]
  omega
theorem pid (w0 w : World) (l : List Thing) (p b : Nat) (L : List Bool) (a i : Nat) (h : Own w0 w (penC p b :: WrT b L :: l)) (ha : a < i) (hi : i < 4294967296) (hl : L.length + 80 ≤ 1048576) :
  Calls Tryz.prog 156 #[.pointer (some ⟨p,0,none⟩),.int .u32 (a : Int),.int .u32 (i : Int)] w fun e w' => e = .returned (.tuple #[]) ∧ Own w0 w' (penC p b :: WrT b (L ++ idB a i) :: l) := by
 have hg := grp32 (i - a - 1) (by omega)
 have hP := pputVar w0 w l p b L (i - a - 1) h (by omega) (by omega)
 have H5 : Hid (∀ v : Int,v = ((i - a - 1 : Nat) : Int) → Calls Tryz.prog 128 #[.pointer (some ⟨p,0,none⟩),.int .u64 v] w _) := fun v hv => by rw [hv]; exact hP
 clear h hP hl hg
 unfold idB
 go_enter Tryz.func156,Tryz.ntmps156
 go_wp2_with fail
 refine (H5.out _ (by omega)).mono ?_
 rintro x w5 ⟨rfl,h5⟩
 have H6 : Hid (Own w0 w5 _) := h5
 clear h5 H5
 go_wp2
 go_end0
 exact ⟨rfl,H6.out⟩
theorem pmask (w0 w : World) (l : List Thing) (p b : Nat) (L : List Bool) (m : Nat) (h : Own w0 w (penC p b :: WrT b L :: l)) (hm : m < 32) (hl : L.length + 5 ≤ 1048576) :
  Calls Tryz.prog 157 #[.pointer (some ⟨p,0,none⟩),.int .u8 (m : Int)] w fun e w' => e = .returned (.tuple #[]) ∧ Own w0 w' (penC p b :: WrT b (L ++ bitsN 5 m) :: l) := by
 have H1 : Hid (Calls Tryz.prog 129 #[.pointer (some ⟨p,0,none⟩),.int .u64 (m : Int),.int .i64 5] w _) := pput w0 w l p b L m 5 h (by decide) hm (by omega) hl
 clear h hl
 go_enter Tryz.func157,Tryz.ntmps157
 go_wp2_with fail
 refine H1.out.mono ?_
 rintro x w5 ⟨rfl,h5⟩
 have H6 : Hid (Own w0 w5 _) := h5
 clear h5 H1
 go_wp2
 go_end0
 exact ⟨rfl,H6.out⟩
def lastI : Nat → List Nat → Nat
 | a,[] => a
 | _,i :: t => lastI i t
theorem lastI_snoc (a : Nat) (G : List Nat) (i : Nat) : lastI a (G ++ [i]) = i := by
 induction G generalizing a with
 | nil => rfl
 | cons x t ih => exact ih x
theorem idsB_snoc (a : Nat) (G : List Nat) (i : Nat) : idsB a (G ++ [i]) = idsB a G ++ idB (lastI a G) i := by
 induction G generalizing a with
 | nil => simp [idsB,lastI]
 | cons x t ih => simp [idsB,lastI,ih x]
theorem lastI_lt {a : Nat} {G : List Nat} {i : Nat} (h : (G ++ [i]).Pairwise (· < ·)) (ha : ∀ x ∈ G ++ [i],a < x) : lastI a G < i := by
 induction G generalizing a with
 | nil => exact ha i (by simp)
 | cons x t ih =>
  have h1 := List.pairwise_cons.1 h
  exact ih h1.2 (fun y hy => h1.1 y hy)
theorem idsB_le (a : Nat) (G : List Nat) (h : ∀ i ∈ G,i < 4294967296) : (idsB a G).length ≤ 80 * G.length := by
 induction G generalizing a with
 | nil => simp [idsB]
 | cons x t ih =>
  have h1 := idB_le a x (h x (by simp))
  have h2 := ih x (fun i hi => h i (by simp [hi]))
  simp only [idsB,List.length_append,List.length_cons]
  omega
theorem pids (w0 w : World) (l : List Thing) (p b : Nat) (L : List Bool) (ao : Option Addr) (n cap : Nat) (G : List Nat) (h : Own w0 w (penC p b :: WrT b L :: l)) (hG : ∀ w',Own w0 w' l → ∀ (j : Nat) i,G[j]? = some i → ∃ g o,ao = some ⟨g,o,none⟩ ∧ w'.cell? ⟨g,o + j,none⟩ = some (.int .u32 (i : Int))) (hn : G.length = n) (hup : G.Pairwise (· < ·)) (h1 : ∀ i ∈ G,0 < i ∧ i < 4294967296) (hl : L.length + 80 * n + 200 ≤ 1048576) :
  Calls Tryz.prog 161 #[.pointer (some ⟨p,0,none⟩),.slice ao n cap] w fun e w' => e = .returned (.tuple #[]) ∧ Own w0 w' (penC p b :: WrT b ((L ++ var n) ++ idsB 0 G) :: l) := by
 have hg := (grp_bd n (by omega)).2
 have H1 : Hid (Calls _ _ _ _ _) := pcount w0 w l p b L n h (by omega) (by omega)
 have HG : Hid (G.length = n ∧ G.Pairwise (· < ·) ∧ (∀ i ∈ G,0 < i ∧ i < 4294967296) ∧ ∀ w',Own w0 w' l → ∀ (j : Nat) i,G[j]? = some i → ∃ g o,ao = some ⟨g,o,none⟩ ∧ w'.cell? ⟨g,o + j,none⟩ = some (.int .u32 (i : Int))) := ⟨hn,hup,h1,hG⟩
 have HL : Hid (L.length + 80 * n + 200 ≤ 1048576 ∧ (var n).length ≤ 80) := ⟨hl,by rw [length_var]; omega⟩
 have hnn : n ≤ 20000 := by omega
 clear h hG hn hup h1 hl hg
 go_enter Tryz.func161,Tryz.ntmps161
 go_wp2_with fail
 refine H1.out.mono ?_
 rintro e w1 ⟨rfl,h2⟩
 have H3 : Hid (Own w0 w1 _) := h2
 clear h2 H1
 go_wp2
 go_loopw [4,13] (fun v4 cc wr => ∃ k : Nat,k ≤ n ∧ cc = .int .i64 (k : Int) ∧ v4 = .int .u32 ((lastI 0 (G.take k) : Nat) : Int) ∧ Own w0 wr (penC p b :: WrT b ((L ++ var n) ++ idsB 0 (G.take k)) :: l)) (fun _ cc _ => n - (intOf cc).toNat)
 case atStart => exact ⟨0,Nat.zero_le _,rfl,rfl,by simpa [idsB] using H3.out⟩
 case round =>
  obtain ⟨k,hk,rfl,rfl,hO⟩ := hrel
  clear H3
  by_cases hlt : k < n
  ·obtain ⟨i,hi⟩ : ∃ i,G[k]? = some i := ⟨_,List.getElem?_eq_getElem (by rw [HG.out.1]; exact hlt)⟩
   obtain ⟨g,o,hga,hc⟩ := HG.out.2.2.2 wr hO.tail.tail k i hi
   subst hga
   have hlt' : (k : Int) < (n : Int) := by omega
   have htk : G.take (k + 1) = G.take k ++ [i] := by rw [List.take_add_one,hi]; rfl
   have hil := (HG.out.2.2.1 i (List.mem_of_getElem? hi)).2
   have hla : lastI 0 (G.take k) < i := lastI_lt (by rw [← htk]; exact HG.out.2.1.sublist (List.take_sublist _ _)) (fun x hx => (HG.out.2.2.1 x (by rw [← htk] at hx; exact List.mem_of_mem_take hx)).1)
   have hil2 := idsB_le 0 (G.take k) (fun x hx => (HG.out.2.2.1 x (List.mem_of_mem_take hx)).2)
   have HP : Hid (Calls _ _ _ _ _) := pid w0 wr l p b _ (lastI 0 (G.take k)) i hO hla hil (by have := HL.out; rw [List.length_take] at hil2; rw [List.length_append,List.length_append]; omega)
   have HT : Hid (lastI 0 (G.take (k + 1)) = i ∧ idsB 0 (G.take (k + 1)) = idsB 0 (G.take k) ++ idB (lastI 0 (G.take k)) i) := by rw [htk]; exact ⟨lastI_snoc _ _ _,idsB_snoc _ _ _⟩
   generalize lastI 0 (G.take k) = la at *
   clear hO htk hi hil2
   go_wp2_with fail
   refine HP.out.mono ?_
   rintro e w2 ⟨rfl,h2⟩
   have H4 : Hid (Own w0 w2 (penC p b :: WrT b ((L ++ var n) ++ idsB 0 (G.take (k + 1))) :: l)) := by
    show Own _ _ _
    rw [HT.out.2,← List.append_assoc]; exact h2
   clear h2 HP
   go_wp2
   go_roundw
   case rel => exact ⟨k + 1,by omega,by go_num,by rw [HT.out.1],H4.out⟩
   case measure => simp [intOf]; omega
  ·have hk2 : k = n := by omega
   subst hk2
   have hlt' : ¬ (k : Int) < (k : Int) := by omega
   have H4 : Hid (Own w0 wr (penC p b :: WrT b ((L ++ var k) ++ idsB 0 G) :: l)) := by
    have := hO
    rw [List.take_of_length_le (by rw [HG.out.1]; exact Nat.le_refl _)] at this
    exact this
   clear hO
   go_wp2
   go_end0
   exact ⟨rfl,by first | exact H4.out | (rw [← List.append_assoc]; exact H4.out)⟩
theorem pcomps (w0 w : World) (ht : Tab w0) (l : List Thing) (p b : Nat) (L : List Bool) (ao : Option Addr) (n cap : Nat) (C : List Cp) (h : Own w0 w (penC p b :: WrT b L :: l)) (hC : ∀ w',Own w0 w' l → Cs w' ao C) (hn : C.length = n) (hk : ∀ q ∈ C,q.k < 256) (h0 : ∀ q ∈ C,chk q.k (f3 q.a q.b q.c) = 0) (hl : L.length + 60 * n + 200 ≤ 1048576) :
  Calls Tryz.prog 159 #[.pointer (some ⟨p,0,none⟩),.slice ao n cap] w fun e w' => e = .returned (.tuple #[]) ∧ Own w0 w' (penC p b :: WrT b (L ++ cpsB C) :: l) := by
 have HC : Hid (C.length = n ∧ (∀ q ∈ C,q.k < 256) ∧ (∀ q ∈ C,chk q.k (f3 q.a q.b q.c) = 0) ∧ ∀ w',Own w0 w' l → Cs w' ao C) := ⟨hn,hk,h0,hC⟩
 have HL : Hid (L.length + 60 * n + 200 ≤ 1048576) := hl
 have HT : Hid (Tab w0) := ht
 have H3 : Hid (Own w0 w (penC p b :: WrT b L :: l)) := h
 have hnn : n ≤ 20000 := by omega
 clear h hC hn hk h0 hl ht
 go_enter Tryz.func159,Tryz.ntmps159
 go_wp2
 go_loopw [8] (fun cc wr => ∃ k : Nat,k ≤ n ∧ cc = .int .i64 (k : Int) ∧ Own w0 wr (penC p b :: WrT b (L ++ cpsB (C.take k)) :: l)) (fun cc _ => n - (intOf cc).toNat)
 case atStart => exact ⟨0,Nat.zero_le _,rfl,by simpa [cpsB] using H3.out⟩
 case round =>
  obtain ⟨k,hk,rfl,hO⟩ := hrel
  clear H3
  by_cases hlt : k < n
  ·obtain ⟨q,hq⟩ : ∃ q,C[k]? = some q := ⟨_,List.getElem?_eq_getElem (by rw [HC.out.1]; exact hlt)⟩
   obtain ⟨g,o,hga,-,c0,c1,c2,c3⟩ := (HC.out.2.2.2 wr hO.tail.tail).at k q hq
   subst hga
   have hlt' : (k : Int) < (n : Int) := by omega
   have hq8 := HC.out.2.1 q (List.mem_of_getElem? hq)
   have hq0 := HC.out.2.2.1 q (List.mem_of_getElem? hq)
   have hb1 : g < wr.heap.size := World.block_lt_of_cell? wr _ c0
   have hb2 : wr.heap.size ≠ g := by omega
   have hcl := cpsB_le (C.take k)
   rw [List.length_take] at hcl
   have hB := (hO.allocC #[.int .u8 (q.k : Int),.int .i32 q.a,.int .i32 q.b,.int .i32 q.c] 63).two.in23
   have HPU : Hid (∀ W,Own w0 W (penC p b :: WrT b (L ++ cpsB (C.take k)) :: Cells wr.heap.size #[.int .u8 (q.k : Int),.int .i32 q.a,.int .i32 q.b,.int .i32 q.c] 63 :: l) → Calls Tryz.prog 182 #[.pointer (some ⟨b,0,none⟩),.agg #[.int .u8 (q.k : Int),.int .i32 q.a,.int .i32 q.b,.int .i32 q.c]] W fun e w' => e = .returned (.int .i64 0) ∧ Own w0 w' (penC p b :: WrT b ((L ++ cpsB (C.take k)) ++ cpB q) :: Cells wr.heap.size #[.int .u8 (q.k : Int),.int .i32 q.a,.int .i32 q.b,.int .i32 q.c] 63 :: l)) := fun W hW => by
    refine (putC_okW w0 W _ HT.out b _ q.k hq8 (f3 q.a q.b q.c) hW.two hq0 (by have := HL.out; rw [List.length_append]; omega)).mono ?_
    rintro e w' ⟨rfl,h1,_⟩
    exact ⟨rfl,h1.two⟩
   have HTK : Hid (cpsB (C.take (k + 1)) = cpsB (C.take k) ++ cpB q) := by
    show _ = _
    rw [List.take_add_one,hq,cpsB_app]; simp [cpsB]
   have HB : Hid (Own w0 _ _) := hB
   clear hO hB hq hq0 hcl
   obtain ⟨qk,qa,qb,qc⟩ := q
   simp only at c0 c1 c2 c3 hq8 HPU HB HTK
   go_wp2
   generalize hWg : wr.alloc (.cells #[.int .u8 (qk : Int),.int .i32 qa,.int .i32 qb,.int .i32 qc] 63) = W1 at *
   generalize wr.heap.size = bx at *
   clear hWg c0 c1 c2 c3 hb1 hb2
   have u0 := (Own.three HB.out).cell 0
   have u1 := (Own.three HB.out).cell 1
   have u2 := (Own.three HB.out).cell 2
   have u3 := (Own.three HB.out).cell 3
   have u4 := Own.cell (show Own w0 W1 (Cells p #[.pointer (some ⟨b,0,none⟩),.int .i64 0] 165 :: _) from HB.out) 0
   simp at u0 u1 u2 u3 u4
   have O1 := HB.out.drew
   clear HB
   go_region_held3 (fun w' => w'.cell? ⟨bx,0,none⟩ = some (.int .u8 (qk : Int)) ∧ w'.cell? ⟨bx,1,none⟩ = some (.int .i32 qa) ∧ w'.cell? ⟨bx,2,none⟩ = some (.int .i32 qb) ∧ w'.cell? ⟨bx,3,none⟩ = some (.int .i32 qc) ∧ w'.cell? ⟨p,0,none⟩ = some (.pointer (some ⟨b,0,none⟩))) (go_keep)
    (first
      | (go_at_call 182; with_reducible refine (HPU.out _ O1).mono ?_; rintro e w5 ⟨rfl,O5⟩
         have t0 := (Own.three O5).cell 0
         have t1 := (Own.three O5).cell 1
         have t2 := (Own.three O5).cell 2
         have t3 := (Own.three O5).cell 3
         have t4 := Own.cell (show Own w0 w5 (Cells p #[.pointer (some ⟨b,0,none⟩),.int .i64 0] 165 :: _) from O5) 0
         simp at t0 t1 t2 t3 t4)
      | (go_at_call 151; with_reducible refine (note0 w0 w5 _ p b O5).mono ?_; rintro e w6 ⟨rfl,O6⟩
         have t0 := (Own.three O6).cell 0
         have t1 := (Own.three O6).cell 1
         have t2 := (Own.three O6).cell 2
         have t3 := (Own.three O6).cell 3
         have t4 := Own.cell (show Own w0 w6 (Cells p #[.pointer (some ⟨b,0,none⟩),.int .i64 0] 165 :: _) from O6) 0
         simp at t0 t1 t2 t3 t4))
   have H4 : Hid (Own w0 w6 (penC p b :: WrT b (L ++ cpsB (C.take (k + 1))) :: l)) := by
    show Own _ _ _
    rw [HTK.out,← List.append_assoc]; exact O6.three.tail
   clear O6 O5 O1 HPU u0 u1 u2 u3 u4 t0 t1 t2 t3 t4
   go_wp2
   go_roundw
   case rel => exact ⟨k + 1,by omega,by go_num,H4.out⟩
   case measure => simp [intOf]; omega
  ·have hk2 : k = n := by omega
   subst hk2
   have hlt' : ¬ (k : Int) < (k : Int) := by omega
   have H4 : Hid (Own w0 wr (penC p b :: WrT b (L ++ cpsB C) :: l)) := by
    have := hO
    rw [List.take_of_length_le (by rw [HC.out.1]; exact Nat.le_refl _)] at this
    exact this
   clear hO
   go_wp2
   go_end0
   exact ⟨rfl,H4.out⟩
end Go.Proofs.YtgifeckbflkkpaaGreatDoor
