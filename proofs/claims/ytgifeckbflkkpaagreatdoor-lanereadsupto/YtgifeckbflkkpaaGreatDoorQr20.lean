/- The program's Diff and Empty. -/
import Derived.Test.YtgifeckbflkkpaaGreatDoorQr18
import Derived.Test.YtgifeckbflkkpaaGreatDoorQr19
import Derived.Laws.ResultCell
import Derived.Test.YtgifeckbflkkpaaGreatDoorQr03
import Derived.Test.YtgifeckbflkkpaaGreatDoorQr13
import Derived.Test.YtgifeckbflkkpaaGreatDoorQr12
import Derived.Test.YtgifeckbflkkpaaGreatDoorQr06
import Derived.Test.YtgifeckbflkkpaaGreatDoorQr11
import Derived.Test.YtgifeckbflkkpaaGreatDoorQr16
import Derived.Test.YtgifeckbflkkpaaGreatDoorQr15
namespace Go.Proofs.YtgifeckbflkkpaaGreatDoor
open Go.RowKit
set_option linter.unusedVariables false
set_option maxHeartbeats 4000000
set_option maxRecDepth 100000
def dcode (W N : List En) : Nat := if fm 0 W ≠ 0 then fm 0 W else fm 0 N
theorem fm_lt (p : Nat) (L : List En) : fm p L < 4294967296 := by
 induction L generalizing p with
 | nil => simp [fm]
 | cons x t ih =>
  rw [fm]
  split
  ·unfold ent1
   split
   ·decide
   ·split
    ·exact lst_small x.2
    ·split <;> decide
  ·exact ih _
def dlv (W N : List En) : Dl := if dcode W N = 0 then btw W N else ⟨[],[],[]⟩
theorem Own.nilDl {w0 w : World} {l : List Thing} (h : Own w0 w l) : Own w0 w (nilD.things ++ l) :=
 (Own.two ((Own.ents (ao := none) (cap := 0) (L := []) (((h.nilRow _ _).nilRow _ _))).nilRow _ _)).two
theorem diff_any (w0 w : World) (ht : Tab w0) (l : List Thing) (h : Own w0 w l) (aw an : Option Addr) (nw nn cw cn : Nat) (W N : List EnE) (hQ : ∀ w',Own w0 w' l → EntsAt w' aw W ∧ EntsAt w' an N) (hW : W.length = nw) (hN : N.length = nn) (hcw : nw ≤ cw) (hcn : nn ≤ cn) (hmw : cw ≤ 9223372036854775807) (hmn : cn ≤ 9223372036854775807) (hIW : EIn W) (hIN : EIn N) (hzW : esz W ≤ 1000000) (hzN : esz N ≤ 1000000) :
  Calls Tryz.prog 131 #[.slice aw nw cw,.slice an nn cn] w fun e w' => ∃ d : DlE,e = .returned (.tuple #[.agg d.vs,.int .i64 ((dcode (evs W) (evs N) : Nat) : Int)]) ∧ d.v = dlv (evs W) (evs N) ∧ Own w0 w' (d.things ++ l) := by
 have hB := h.allocC #[.slice none 0 0,.slice none 0 0,.slice none 0 0] 106
 have HF1 : Hid (Calls _ _ _ _ _) := form_any _ (ht.quiet hB.fr) aw nw cw W ((hQ _ hB.tail).1) hW hIW hzW
 have HF2 : Hid (∀ w' b,Own w0 w' (Cells b #[.slice none 0 0,.slice none 0 0,.slice none 0 0] 106 :: l) → Calls Tryz.prog 60 #[.slice an nn cn] w' fun e w'' => e = .returned (.int .i64 ((fm 0 (evs N) : Nat) : Int)) ∧ Fr Nobody w' w'') := fun w' b hw => form_any w' (ht.quiet hw.fr) an nn cn N ((hQ w' hw.tail).2) hN hIN hzN
 have HBT : Hid (∀ w' b,Own w0 w' (Cells b #[.slice none 0 0,.slice none 0 0,.slice none 0 0] 106 :: l) → Calls Tryz.prog 160 #[.slice aw nw cw,.slice an nn cn] w' fun e w'' => ∃ d : DlE,e = .returned (.agg d.vs) ∧ d.v = btw (evs W) (evs N) ∧ Own w0 w'' (d.things ++ (Cells b #[.slice none 0 0,.slice none 0 0,.slice none 0 0] 106 :: l))) := fun w' b hw => between_any w0 w' _ hw aw an nw nn cw cn W N (fun w2 hw2 => hQ w2 hw2.tail) hW hN hcw hcn hmw hmn hIW hIN hzW hzN
 have HB : Hid (Own w0 _ _) := hB
 have hs1 := fm_lt 0 (evs W)
 have hs2 := fm_lt 0 (evs N)
 have HDC : Hid (∀ x y,x = fm 0 (evs W) → y = fm 0 (evs N) → dcode (evs W) (evs N) = if x ≠ 0 then x else y) := fun x y hx hy => by rw [hx,hy]; rfl
 obtain ⟨x,hx⟩ : ∃ x,x = fm 0 (evs W) := ⟨_,rfl⟩
 obtain ⟨y,hy⟩ : ∃ y,y = fm 0 (evs N) := ⟨_,rfl⟩
 have HDC2 : Hid (dcode (evs W) (evs N) = if x ≠ 0 then x else y) := HDC.out x y hx hy
 rw [← hx] at HF1 hs1
 rw [← hy] at HF2 hs2
 clear h hQ hW hN hcw hcn hmw hmn hIW hIN hzW hzN hB ht HDC hx hy
 go_enter Tryz.func131,Tryz.ntmps131
 go_wp2_with fail
 refine HF1.out.mono ?_
 rintro e w1 ⟨rfl,hf1⟩
 have h1 := HB.out.quiet hf1
 generalize w.heap.size = b4 at *
 clear HF1 HB hf1
 by_cases hx0 : x = 0
 ·subst hx0
  have HFN : Hid (Calls _ _ _ _ _) := HF2.out w1 b4 h1
  have H1 : Hid (Own w0 w1 _) := h1
  clear h1 HF2
  go_wp2_with fail
  refine HFN.out.mono ?_
  rintro e w2 ⟨rfl,hf2⟩
  have h2 := H1.out.quiet hf2
  clear HFN H1 hf2
  by_cases hy0 : y = 0
  ·subst hy0
   have HBW : Hid (Calls _ _ _ _ _) := HBT.out w2 b4 h2
   have HC : Hid (dcode (evs W) (evs N) = 0) := by show _ = _; rw [HDC2.out]; rfl
   clear h2 HBT HDC2
   go_wp2_with fail
   refine HBW.out.mono ?_
   rintro e w3 ⟨d,rfl,hd,h3⟩
   have h4 := Own.lift (l := d.things) h3
   have z0 := h4.cell 0
   have z1 := h4.cell 1
   have z2 := h4.cell 2
   have y0 := h4.froz 0
   have y1 := h4.froz 1
   have y2 := h4.froz 2
   simp at z0 z1 z2
   have HF : Hid (Own w0 _ _) := ((h4.setC 0 (.slice d.ga d.G.length d.gc)).setC 1 (.slice d.ma d.M.length d.mc)).setC 2 (.slice d.ha d.H.length d.hc)
   have HV : Hid (d.v = dlv (evs W) (evs N)) := by show _ = _; unfold dlv; rw [if_pos HC.out]; exact hd
   clear h3 h4 hd HBW
   unfold DlE.vs
   go_wp2
   (try simp only [Exit.inBlock,Exit.then])
   refine bodyPost_ret (v := .tuple #[.agg #[.slice d.ga d.G.length d.gc,.slice d.ma d.M.length d.mc,.slice d.ha d.H.length d.hc],.int .i64 0]) ?_ rfl ⟨d,by rw [HC.out]; rfl,HV.out,HF.out.tail⟩
   rw [results_cell_tmp rfl]
   have r0 := HF.out.cell 0
   have r1 := HF.out.cell 1
   have r2 := HF.out.cell 2
   simp at r0 r1 r2
   go_simp
  ·have hy1 : ((y : Int) != 0) = true := by simpa using hy0
   have HC : Hid (dcode (evs W) (evs N) = y) := by show _ = _; rw [HDC2.out]; rfl
   have HV : Hid (nilD.v = dlv (evs W) (evs N)) := by show _ = _; unfold dlv; rw [HC.out,if_neg hy0]; rfl
   have z0 := h2.cell 0
   have z1 := h2.cell 1
   have z2 := h2.cell 2
   have y0 := h2.froz 0
   have y1 := h2.froz 1
   have y2 := h2.froz 2
   simp at z0 z1 z2
   have HF : Hid (Own w0 _ _) := ((h2.setC 0 (.slice none 0 0)).setC 1 (.slice none 0 0)).setC 2 (.slice none 0 0)
   clear h2 HBT HDC2 hy0
   go_wp2
   (try simp only [Exit.inBlock,Exit.then])
   refine bodyPost_ret (v := .tuple #[.agg #[.slice none 0 0,.slice none 0 0,.slice none 0 0],.int .i64 (y : Int)]) ?_ rfl ⟨nilD,by rw [HC.out]; rfl,HV.out,HF.out.tail.nilDl⟩
   rw [results_cell_tmp rfl]
   have r0 := HF.out.cell 0
   have r1 := HF.out.cell 1
   have r2 := HF.out.cell 2
   simp at r0 r1 r2
   go_simp
 ·have hx1 : ((x : Int) != 0) = true := by simpa using hx0
  have HC : Hid (dcode (evs W) (evs N) = x) := by show _ = _; rw [HDC2.out,if_pos hx0]
  have HV : Hid (nilD.v = dlv (evs W) (evs N)) := by show _ = _; unfold dlv; rw [HC.out,if_neg hx0]; rfl
  have z0 := h1.cell 0
  have z1 := h1.cell 1
  have z2 := h1.cell 2
  have y0 := h1.froz 0
  have y1 := h1.froz 1
  have y2 := h1.froz 2
  simp at z0 z1 z2
  have HF : Hid (Own w0 _ _) := ((h1.setC 0 (.slice none 0 0)).setC 1 (.slice none 0 0)).setC 2 (.slice none 0 0)
  clear h1 HBT HDC2 HF2 hx0
  go_wp2
  (try simp only [Exit.inBlock,Exit.then])
  refine bodyPost_ret (v := .tuple #[.agg #[.slice none 0 0,.slice none 0 0,.slice none 0 0],.int .i64 (x : Int)]) ?_ rfl ⟨nilD,by rw [HC.out]; rfl,HV.out,HF.out.tail.nilDl⟩
  rw [results_cell_tmp rfl]
  have r0 := HF.out.cell 0
  have r1 := HF.out.cell 1
  have r2 := HF.out.cell 2
  simp at r0 r1 r2
  go_simp
def Dl.empty (d : Dl) : Bool := d.gone.isEmpty && d.come.isEmpty && d.chg.isEmpty
theorem content_no (w0 w : World) (l : List Thing) (p k : Nat) (wv : Value) (a : Option Addr) (c : Nat) (h : Own w0 w l) (h1 : k ≠ 1) (h2 : k ≠ 2) :
  Calls Tryz.prog 86 #[.pointer (some ⟨p,0,none⟩),.int .u8 (k : Int),wv,.slice a 0 c] w fun e w' => e = .returned (.int .i64 0) ∧ Own w0 w' l := by
 have e1 : ((k : Int) == 1) = false := by rw [beq_eq_false_iff_ne]; omega
 have e2 : ((k : Int) == 2) = false := by rw [beq_eq_false_iff_ne]; omega
 have H : Hid (Own w0 w l) := h
 clear h h1 h2
 go_enter Tryz.func86,Tryz.ntmps86
 go_wp2
 go_ret
 exact ⟨rfl,H.out⟩
theorem pack_len (L : List Bool) : (pack L).length = nb L.length := by simp [pack]
theorem pack_byte (L : List Bool) : ∀ x ∈ pack L,x < 256 := by
 intro x hx
 unfold pack at hx
 obtain ⟨i,_,rfl⟩ := List.mem_map.1 hx
 exact byteAt_lt L i
def idB (a i : Nat) : List Bool := var (i - a - 1)
def idsB : Nat → List Nat → List Bool
 | _,[] => []
 | a,i :: t => idB a i ++ idsB i t
def cpB (q : Cp) : List Bool := cb q.k (f3 q.a q.b q.c) (cnt q.k)
def cpsB : List Cp → List Bool
 | [] => []
 | q :: t => cpB q ++ cpsB t
def entB (a : Nat) (x : En) : List Bool := idB a x.1 ++ (bitsN 5 (msk x.2) ++ cpsB x.2)
def entsB : Nat → List En → List Bool
 | _,[] => []
 | a,x :: t => entB a x ++ entsB x.1 t
theorem idB_le (a i : Nat) (h : i < 4294967296) : (idB a i).length ≤ 80 := by
 unfold idB
 rw [length_var]
 have := grp32 (i - a - 1) (by omega)
 omega
theorem cpsB_app (A B : List Cp) : cpsB (A ++ B) = cpsB A ++ cpsB B := by
 induction A with
 | nil => rfl
 | cons q t ih => simp [cpsB,ih]
theorem cpB_le (q : Cp) : (cpB q).length ≤ 60 := by
 unfold cpB
 rw [length_cb]
 have h1 := bsum_le q.k (cnt q.k) (Nat.le_refl _)
 have h2 := cnt_le q.k
 omega
theorem cpsB_le (C : List Cp) : (cpsB C).length ≤ 60 * C.length := by
 induction C with
 | nil => simp [cpsB]
 | cons q t ih =>
  have := cpB_le q
  simp only [cpsB,List.length_append,List.length_cons]
  omega
theorem pid (w0 w : World) (l : List Thing) (p b : Nat) (L : List Bool) (a i : Nat) (h : Own w0 w (penC p b :: WrT b L :: l)) (ha : a < i) (hi : i < 4294967296) (hl : L.length + 80 ≤ 1048576) :
  Calls Tryz.prog 156 #[.pointer (some ⟨p,0,none⟩),.int .u32 (a : Int),.int .u32 (i : Int)] w fun e w' => e = .returned (.tuple #[]) ∧ Own w0 w' (penC p b :: WrT b (L ++ idB a i) :: l) := by
 have hg := grp32 (i - a - 1) (by omega)
 have hP := pputVar w0 w l p b L (i - a - 1) h (by omega) (by omega)
 have H5 : Hid (∀ v : Int,v = ((i - a - 1 : Nat) : Int) → Calls Tryz.prog 128 #[.pointer (some ⟨p,0,none⟩),.int .u64 v] w _) := fun v hv => by rw [hv]; exact hP
 clear h hP hl hg
 unfold idB
 go_enter Tryz.func156,Tryz.ntmps156
 go_wp2_with fail
 refine (H5.out _ (by omega)).mono ?_
 rintro x w5 ⟨rfl,h5⟩
 have H6 : Hid (Own w0 w5 _) := h5
 clear h5 H5
 go_wp2
 go_end0
 exact ⟨rfl,H6.out⟩
theorem pmask (w0 w : World) (l : List Thing) (p b : Nat) (L : List Bool) (m : Nat) (h : Own w0 w (penC p b :: WrT b L :: l)) (hm : m < 32) (hl : L.length + 5 ≤ 1048576) :
  Calls Tryz.prog 157 #[.pointer (some ⟨p,0,none⟩),.int .u8 (m : Int)] w fun e w' => e = .returned (.tuple #[]) ∧ Own w0 w' (penC p b :: WrT b (L ++ bitsN 5 m) :: l) := by
 have H1 : Hid (Calls Tryz.prog 129 #[.pointer (some ⟨p,0,none⟩),.int .u64 (m : Int),.int .i64 5] w _) := pput w0 w l p b L m 5 h (by decide) hm (by omega) hl
 clear h hl
 go_enter Tryz.func157,Tryz.ntmps157
 go_wp2_with fail
 refine H1.out.mono ?_
 rintro x w5 ⟨rfl,h5⟩
 have H6 : Hid (Own w0 w5 _) := h5
 clear h5 H1
 go_wp2
 go_end0
 exact ⟨rfl,H6.out⟩
def lastI : Nat → List Nat → Nat
 | a,[] => a
 | _,i :: t => lastI i t
theorem lastI_snoc (a : Nat) (G : List Nat) (i : Nat) : lastI a (G ++ [i]) = i := by
 induction G generalizing a with
 | nil => rfl
 | cons x t ih => exact ih x
theorem idsB_snoc (a : Nat) (G : List Nat) (i : Nat) : idsB a (G ++ [i]) = idsB a G ++ idB (lastI a G) i := by
 induction G generalizing a with
 | nil => simp [idsB,lastI]
 | cons x t ih => simp [idsB,lastI,ih x]
theorem lastI_lt {a : Nat} {G : List Nat} {i : Nat} (h : (G ++ [i]).Pairwise (· < ·)) (ha : ∀ x ∈ G ++ [i],a < x) : lastI a G < i := by
 induction G generalizing a with
 | nil => exact ha i (by simp)
 | cons x t ih =>
  have h1 := List.pairwise_cons.1 h
  exact ih h1.2 (fun y hy => h1.1 y hy)
theorem idsB_le (a : Nat) (G : List Nat) (h : ∀ i ∈ G,i < 4294967296) : (idsB a G).length ≤ 80 * G.length := by
 induction G generalizing a with
 | nil => simp [idsB]
 | cons x t ih =>
  have h1 := idB_le a x (h x (by simp))
  have h2 := ih x (fun i hi => h i (by simp [hi]))
  simp only [idsB,List.length_append,List.length_cons]
  omega
theorem pids (w0 w : World) (l : List Thing) (p b : Nat) (L : List Bool) (ao : Option Addr) (n cap : Nat) (G : List Nat) (h : Own w0 w (penC p b :: WrT b L :: l)) (hG : ∀ w',Own w0 w' l → ∀ (j : Nat) i,G[j]? = some i → ∃ g o,ao = some ⟨g,o,none⟩ ∧ w'.cell? ⟨g,o + j,none⟩ = some (.int .u32 (i : Int))) (hn : G.length = n) (hup : G.Pairwise (· < ·)) (h1 : ∀ i ∈ G,0 < i ∧ i < 4294967296) (hl : L.length + 80 * n + 200 ≤ 1048576) :
  Calls Tryz.prog 161 #[.pointer (some ⟨p,0,none⟩),.slice ao n cap] w fun e w' => e = .returned (.tuple #[]) ∧ Own w0 w' (penC p b :: WrT b ((L ++ var n) ++ idsB 0 G) :: l) := by
 have hg := (grp_bd n (by omega)).2
 have H1 : Hid (Calls _ _ _ _ _) := pcount w0 w l p b L n h (by omega) (by omega)
 have HG : Hid (G.length = n ∧ G.Pairwise (· < ·) ∧ (∀ i ∈ G,0 < i ∧ i < 4294967296) ∧ ∀ w',Own w0 w' l → ∀ (j : Nat) i,G[j]? = some i → ∃ g o,ao = some ⟨g,o,none⟩ ∧ w'.cell? ⟨g,o + j,none⟩ = some (.int .u32 (i : Int))) := ⟨hn,hup,h1,hG⟩
 have HL : Hid (L.length + 80 * n + 200 ≤ 1048576 ∧ (var n).length ≤ 80) := ⟨hl,by rw [length_var]; omega⟩
 have hnn : n ≤ 20000 := by omega
 clear h hG hn hup h1 hl hg
 go_enter Tryz.func161,Tryz.ntmps161
 go_wp2_with fail
 refine H1.out.mono ?_
 rintro e w1 ⟨rfl,h2⟩
 have H3 : Hid (Own w0 w1 _) := h2
 clear h2 H1
 go_wp2
 go_loopw [4,13] (fun v4 cc wr => ∃ k : Nat,k ≤ n ∧ cc = .int .i64 (k : Int) ∧ v4 = .int .u32 ((lastI 0 (G.take k) : Nat) : Int) ∧ Own w0 wr (penC p b :: WrT b ((L ++ var n) ++ idsB 0 (G.take k)) :: l)) (fun _ cc _ => n - (intOf cc).toNat)
 case atStart => exact ⟨0,Nat.zero_le _,rfl,rfl,by simpa [idsB] using H3.out⟩
 case round =>
  obtain ⟨k,hk,rfl,rfl,hO⟩ := hrel
  clear H3
  by_cases hlt : k < n
  ·obtain ⟨i,hi⟩ : ∃ i,G[k]? = some i := ⟨_,List.getElem?_eq_getElem (by rw [HG.out.1]; exact hlt)⟩
   obtain ⟨g,o,hga,hc⟩ := HG.out.2.2.2 wr hO.tail.tail k i hi
   subst hga
   have hlt' : (k : Int) < (n : Int) := by omega
   have htk : G.take (k + 1) = G.take k ++ [i] := by rw [List.take_add_one,hi]; rfl
   have hil := (HG.out.2.2.1 i (List.mem_of_getElem? hi)).2
   have hla : lastI 0 (G.take k) < i := lastI_lt (by rw [← htk]; exact HG.out.2.1.sublist (List.take_sublist _ _)) (fun x hx => (HG.out.2.2.1 x (by rw [← htk] at hx; exact List.mem_of_mem_take hx)).1)
   have hil2 := idsB_le 0 (G.take k) (fun x hx => (HG.out.2.2.1 x (List.mem_of_mem_take hx)).2)
   have HP : Hid (Calls _ _ _ _ _) := pid w0 wr l p b _ (lastI 0 (G.take k)) i hO hla hil (by have := HL.out; rw [List.length_take] at hil2; rw [List.length_append,List.length_append]; omega)
   have HT : Hid (lastI 0 (G.take (k + 1)) = i ∧ idsB 0 (G.take (k + 1)) = idsB 0 (G.take k) ++ idB (lastI 0 (G.take k)) i) := by rw [htk]; exact ⟨lastI_snoc _ _ _,idsB_snoc _ _ _⟩
   generalize lastI 0 (G.take k) = la at *
   clear hO htk hi hil2
   go_wp2_with fail
   refine HP.out.mono ?_
   rintro e w2 ⟨rfl,h2⟩
   have H4 : Hid (Own w0 w2 (penC p b :: WrT b ((L ++ var n) ++ idsB 0 (G.take (k + 1))) :: l)) := by
    show Own _ _ _
    rw [HT.out.2,← List.append_assoc]; exact h2
   clear h2 HP
   go_wp2
   go_roundw
   case rel => exact ⟨k + 1,by omega,by go_num,by rw [HT.out.1],H4.out⟩
   case measure => simp [intOf]; omega
  ·have hk2 : k = n := by omega
   subst hk2
   have hlt' : ¬ (k : Int) < (k : Int) := by omega
   have H4 : Hid (Own w0 wr (penC p b :: WrT b ((L ++ var k) ++ idsB 0 G) :: l)) := by
    have := hO
    rw [List.take_of_length_le (by rw [HG.out.1]; exact Nat.le_refl _)] at this
    exact this
   clear hO
   go_wp2
   go_end0
   exact ⟨rfl,by first | exact H4.out | (rw [← List.append_assoc]; exact H4.out)⟩
theorem pcomps (w0 w : World) (ht : Tab w0) (l : List Thing) (p b : Nat) (L : List Bool) (ao : Option Addr) (n cap : Nat) (C : List Cp) (h : Own w0 w (penC p b :: WrT b L :: l)) (hC : ∀ w',Own w0 w' l → Cs w' ao C) (hn : C.length = n) (hk : ∀ q ∈ C,q.k < 256) (h0 : ∀ q ∈ C,chk q.k (f3 q.a q.b q.c) = 0) (hl : L.length + 60 * n + 200 ≤ 1048576) :
  Calls Tryz.prog 159 #[.pointer (some ⟨p,0,none⟩),.slice ao n cap] w fun e w' => e = .returned (.tuple #[]) ∧ Own w0 w' (penC p b :: WrT b (L ++ cpsB C) :: l) := by
 have HC : Hid (C.length = n ∧ (∀ q ∈ C,q.k < 256) ∧ (∀ q ∈ C,chk q.k (f3 q.a q.b q.c) = 0) ∧ ∀ w',Own w0 w' l → Cs w' ao C) := ⟨hn,hk,h0,hC⟩
 have HL : Hid (L.length + 60 * n + 200 ≤ 1048576) := hl
 have HT : Hid (Tab w0) := ht
 have H3 : Hid (Own w0 w (penC p b :: WrT b L :: l)) := h
 have hnn : n ≤ 20000 := by omega
 clear h hC hn hk h0 hl ht
 go_enter Tryz.func159,Tryz.ntmps159
 go_wp2
 go_loopw [8] (fun cc wr => ∃ k : Nat,k ≤ n ∧ cc = .int .i64 (k : Int) ∧ Own w0 wr (penC p b :: WrT b (L ++ cpsB (C.take k)) :: l)) (fun cc _ => n - (intOf cc).toNat)
 case atStart => exact ⟨0,Nat.zero_le _,rfl,by simpa [cpsB] using H3.out⟩
 case round =>
  obtain ⟨k,hk,rfl,hO⟩ := hrel
  clear H3
  by_cases hlt : k < n
  ·obtain ⟨q,hq⟩ : ∃ q,C[k]? = some q := ⟨_,List.getElem?_eq_getElem (by rw [HC.out.1]; exact hlt)⟩
   obtain ⟨g,o,hga,-,c0,c1,c2,c3⟩ := (HC.out.2.2.2 wr hO.tail.tail).at k q hq
   subst hga
   have hlt' : (k : Int) < (n : Int) := by omega
   have hq8 := HC.out.2.1 q (List.mem_of_getElem? hq)
   have hq0 := HC.out.2.2.1 q (List.mem_of_getElem? hq)
   have hb1 : g < wr.heap.size := World.block_lt_of_cell? wr _ c0
   have hb2 : wr.heap.size ≠ g := by omega
   have hcl := cpsB_le (C.take k)
   rw [List.length_take] at hcl
   have hB := (hO.allocC #[.int .u8 (q.k : Int),.int .i32 q.a,.int .i32 q.b,.int .i32 q.c] 63).two.in23
   have HPU : Hid (∀ W,Own w0 W (penC p b :: WrT b (L ++ cpsB (C.take k)) :: Cells wr.heap.size #[.int .u8 (q.k : Int),.int .i32 q.a,.int .i32 q.b,.int .i32 q.c] 63 :: l) → Calls Tryz.prog 182 #[.pointer (some ⟨b,0,none⟩),.agg #[.int .u8 (q.k : Int),.int .i32 q.a,.int .i32 q.b,.int .i32 q.c]] W fun e w' => e = .returned (.int .i64 0) ∧ Own w0 w' (penC p b :: WrT b ((L ++ cpsB (C.take k)) ++ cpB q) :: Cells wr.heap.size #[.int .u8 (q.k : Int),.int .i32 q.a,.int .i32 q.b,.int .i32 q.c] 63 :: l)) := fun W hW => by
    refine (putC_okW w0 W _ HT.out b _ q.k hq8 (f3 q.a q.b q.c) hW.two hq0 (by have := HL.out; rw [List.length_append]; omega)).mono ?_
    rintro e w' ⟨rfl,h1,_⟩
    exact ⟨rfl,h1.two⟩
   have HTK : Hid (cpsB (C.take (k + 1)) = cpsB (C.take k) ++ cpB q) := by
    show _ = _
    rw [List.take_add_one,hq,cpsB_app]; simp [cpsB]
   have HB : Hid (Own w0 _ _) := hB
   clear hO hB hq hq0 hcl
   obtain ⟨qk,qa,qb,qc⟩ := q
   simp only at c0 c1 c2 c3 hq8 HPU HB HTK
   go_wp2
   generalize hWg : wr.alloc (.cells #[.int .u8 (qk : Int),.int .i32 qa,.int .i32 qb,.int .i32 qc] 63) = W1 at *
   generalize wr.heap.size = bx at *
   clear hWg c0 c1 c2 c3 hb1 hb2
   have u0 := (Own.three HB.out).cell 0
   have u1 := (Own.three HB.out).cell 1
   have u2 := (Own.three HB.out).cell 2
   have u3 := (Own.three HB.out).cell 3
   have u4 := Own.cell (show Own w0 W1 (Cells p #[.pointer (some ⟨b,0,none⟩),.int .i64 0] 165 :: _) from HB.out) 0
   simp at u0 u1 u2 u3 u4
   have O1 := HB.out.drew
   clear HB
   go_region_held3 (fun w' => w'.cell? ⟨bx,0,none⟩ = some (.int .u8 (qk : Int)) ∧ w'.cell? ⟨bx,1,none⟩ = some (.int .i32 qa) ∧ w'.cell? ⟨bx,2,none⟩ = some (.int .i32 qb) ∧ w'.cell? ⟨bx,3,none⟩ = some (.int .i32 qc) ∧ w'.cell? ⟨p,0,none⟩ = some (.pointer (some ⟨b,0,none⟩))) (go_keep)
    (first
      | (go_at_call 182; with_reducible refine (HPU.out _ O1).mono ?_; rintro e w5 ⟨rfl,O5⟩
         have t0 := (Own.three O5).cell 0
         have t1 := (Own.three O5).cell 1
         have t2 := (Own.three O5).cell 2
         have t3 := (Own.three O5).cell 3
         have t4 := Own.cell (show Own w0 w5 (Cells p #[.pointer (some ⟨b,0,none⟩),.int .i64 0] 165 :: _) from O5) 0
         simp at t0 t1 t2 t3 t4)
      | (go_at_call 151; with_reducible refine (note0 w0 w5 _ p b O5).mono ?_; rintro e w6 ⟨rfl,O6⟩
         have t0 := (Own.three O6).cell 0
         have t1 := (Own.three O6).cell 1
         have t2 := (Own.three O6).cell 2
         have t3 := (Own.three O6).cell 3
         have t4 := Own.cell (show Own w0 w6 (Cells p #[.pointer (some ⟨b,0,none⟩),.int .i64 0] 165 :: _) from O6) 0
         simp at t0 t1 t2 t3 t4))
   have H4 : Hid (Own w0 w6 (penC p b :: WrT b (L ++ cpsB (C.take (k + 1))) :: l)) := by
    show Own _ _ _
    rw [HTK.out,← List.append_assoc]; exact O6.three.tail
   clear O6 O5 O1 HPU u0 u1 u2 u3 u4 t0 t1 t2 t3 t4
   go_wp2
   go_roundw
   case rel => exact ⟨k + 1,by omega,by go_num,H4.out⟩
   case measure => simp [intOf]; omega
  ·have hk2 : k = n := by omega
   subst hk2
   have hlt' : ¬ (k : Int) < (k : Int) := by omega
   have H4 : Hid (Own w0 wr (penC p b :: WrT b (L ++ cpsB C) :: l)) := by
    have := hO
    rw [List.take_of_length_le (by rw [HC.out.1]; exact Nat.le_refl _)] at this
    exact this
   clear hO
   go_wp2
   go_end0
   exact ⟨rfl,H4.out⟩
theorem split_at {P : List Nat} {t : Nat} {X : List Bool} (ht : t ≤ 8 * P.length) (h : (bitsB P).drop t = X) : bitsB P = (bitsB P).take t ++ X ∧ ((bitsB P).take t).length = t := by
 constructor
 ·rw [← h,List.take_append_drop]
 ·rw [List.length_take,length_bitsB]; omega
def kl (m n : Nat) : List Nat := (List.range n).filter (fun j => m / 2 ^ j % 2 == 1)
theorem kl_on {m k : Nat} (h : m / 2 ^ k % 2 = 1) : kl m (k + 1) = kl m k ++ [k] := by
 unfold kl; rw [List.range_succ,List.filter_append]; simp [h]
theorem kl_off {m k : Nat} (h : ¬ m / 2 ^ k % 2 = 1) : kl m (k + 1) = kl m k := by
 unfold kl; rw [List.range_succ,List.filter_append]; simp [h]
theorem kl_len (m n : Nat) : (kl m n).length ≤ n := by
 unfold kl; exact Nat.le_trans (List.length_filter_le _ _) (by simp)
theorem val_bit : ∀ (j : Fin 6) (a b c d e f : Bool),val a b c d e f / 2 ^ j.1 % 2 = (nthB a b c d e f j.1).toNat := by decide
theorem nth_hasK (C : List Cp) (k : Nat) (hk : k < 6) : nthB (hasK C 0) (hasK C 1) (hasK C 2) (hasK C 3) (hasK C 4) (hasK C 5) k = hasK C k := by
 have : k = 0 ∨ k = 1 ∨ k = 2 ∨ k = 3 ∨ k = 4 ∨ k = 5 := by omega
 rcases this with rfl | rfl | rfl | rfl | rfl | rfl <;> rfl
theorem msk_bitK (C : List Cp) (k : Nat) (hk : k < 6) : msk C / 2 ^ k % 2 = 1 ↔ hasK C k = true := by
 rw [msk_val,val_bit ⟨k,hk⟩,nth_hasK C k hk]
 cases hasK C k <;> simp
theorem kl_kinds {C : List Cp} (hC : Good C) (h5 : hasK C 5 = false) : kl (msk C) 5 = C.map (·.k) := by
 refine up_mem (fun x : Nat => x) ?_ (List.pairwise_map.2 hC.1) (fun x => ?_)
 ·unfold kl
  exact List.Pairwise.filter _ List.pairwise_lt_range
 ·unfold kl
  rw [List.mem_filter,List.mem_range,List.mem_map]
  constructor
  ·rintro ⟨h1,h2⟩
   have h3 := (msk_bitK C x (by omega)).1 (by simpa using h2)
   obtain ⟨y,hy⟩ := hasK_fst h3
   exact ⟨y,fst_some hy⟩
  ·rintro ⟨q,hq,rfl⟩
   have h6 := hC.2 q hq
   have hh := mem_hasK hq
   have h7 : q.k ≠ 5 := by
    intro e
    rw [e,h5] at hh
    cases hh
   exact ⟨by omega,by simpa using (msk_bitK C q.k h6).2 hh⟩
theorem entsB_snoc (a : Nat) (X : List En) (x : En) : entsB a (X ++ [x]) = entsB a X ++ entB (lastI a (X.map (·.1))) x := by
 induction X generalizing a with
 | nil => simp [entsB,lastI]
 | cons y t ih => simp [entsB,lastI,ih y.1]
theorem entsB_le (a : Nat) (X : List En) (h : ∀ x ∈ X,x.1 < 4294967296) : (entsB a X).length ≤ 85 * X.length + 60 * cszV X := by
 induction X generalizing a with
 | nil => simp [entsB]
 | cons x t ih =>
  have h1 := idB_le a x.1 (h x (by simp))
  have h2 := ih x.1 (fun i hi => h i (by simp [hi]))
  have h3 := cpsB_le x.2
  simp only [entsB,entB,List.length_append,List.length_cons,length_bitsN,cszV]
  omega
theorem cszV_take (X : List En) : ∀ {k : Nat} {x : En},X[k]? = some x → cszV (X.take k) + x.2.length ≤ cszV X := by
 induction X with
 | nil => intro k x h; simp at h
 | cons y t ih =>
  intro k x h
  cases k with
  | zero => simp at h; subst h; simp [cszV]
  | succ k =>
   have := ih (k := k) (x := x) (by simpa using h)
   simp only [List.take_succ_cons,cszV]
   omega
theorem val32 : ∀ (a b c d e : Bool),val a b c d e false < 32 := by decide
theorem told5 : ktold 5 = false := by decide +kernel
theorem msk_lt32 {C : List Cp} (h : un C = false) : msk C < 32 := by
 have h5 : hasK C 5 = false := by
  cases hh : hasK C 5 with
  | false => rfl
  | true =>
   obtain ⟨x,hx⟩ := hasK_fst hh
   have h1 := fst_some hx
   unfold un at h
   rw [List.any_eq_false] at h
   have := h x h1.1
   rw [h1.2,told5] at this
   simp at this
 rw [msk_val,h5]
 exact val32 _ _ _ _ _
theorem fm_each {L : List En} : ∀ {p : Nat},fm p L = 0 → ∀ x ∈ L,1024 ≤ x.1 ∧ lst (-1) x.2 = 0 ∧ un x.2 = false := by
 induction L with
 | nil => intro p _ x hx; cases hx
 | cons y t ih =>
  intro p h x hx
  rw [fm] at h
  split at h
  ·rename_i h1; exact absurd h h1
  ·rename_i h1
   have h1 : ent1 p y = 0 := by simpa using h1
   obtain ⟨e1,e2,e3,e4⟩ := ent1_ok h1
   rcases List.mem_cons.1 hx with rfl | hx
   ·exact ⟨by omega,e3,e4⟩
   ·exact ih h x hx
theorem pents (w0 w : World) (ht : Tab w0) (l : List Thing) (p b : Nat) (L : List Bool) (ao : Option Addr) (n cap : Nat) (E : List EnE) (h : Own w0 w (penC p b :: WrT b L :: l)) (hE : ∀ w',Own w0 w' l → EntsAt w' ao E) (hn : E.length = n) (hI : EIn E) (hup : (evs E).Pairwise (fun a b => a.1 < b.1)) (hok : ∀ x ∈ evs E,1024 ≤ x.1 ∧ lst (-1) x.2 = 0 ∧ un x.2 = false) (hl : L.length + 100 * esz E + 400 ≤ 1048576) :
  Calls Tryz.prog 130 #[.pointer (some ⟨p,0,none⟩),.slice ao n cap] w fun e w' => e = .returned (.tuple #[]) ∧ Own w0 w' (penC p b :: WrT b ((L ++ var n) ++ entsB 0 (evs E)) :: l) := by
 have hnn : n ≤ 20000 := by unfold esz at hl; omega
 have hg := (grp_bd n (by omega)).2
 have H1 : Hid (Calls _ _ _ _ _) := pcount w0 w l p b L n h (by omega) (by omega)
 have HG : Hid (E.length = n ∧ (evs E).Pairwise (fun a b => a.1 < b.1) ∧ (∀ x ∈ evs E,1024 ≤ x.1 ∧ lst (-1) x.2 = 0 ∧ un x.2 = false) ∧ (∀ w',Own w0 w' l → EntsAt w' ao E) ∧ EIn E) := ⟨hn,hup,hok,hE,hI⟩
 have HL : Hid (L.length + 100 * (n + csz E) + 400 ≤ 1048576 ∧ (var n).length ≤ 80) := ⟨by unfold esz at hl; rw [hn] at hl; exact hl,by rw [length_var]; omega⟩
 have HT : Hid (Tab w0) := ht
 clear h hE hn hup hok hl hg hI ht
 go_enter Tryz.func130,Tryz.ntmps130
 go_wp2_with fail
 refine H1.out.mono ?_
 rintro e w1 ⟨rfl,h2⟩
 have H3 : Hid (Own w0 w1 _) := h2
 clear h2 H1
 go_wp2
 go_loopw [4,13] (fun v4 cc wr => ∃ k : Nat,k ≤ n ∧ cc = .int .i64 (k : Int) ∧ v4 = .int .u32 ((lastI 0 (((evs E).take k).map (·.1)) : Nat) : Int) ∧ Own w0 wr (penC p b :: WrT b ((L ++ var n) ++ entsB 0 ((evs E).take k)) :: l)) (fun _ cc _ => n - (intOf cc).toNat)
 case atStart => exact ⟨0,Nat.zero_le _,rfl,rfl,by simpa [entsB] using H3.out⟩
 case round =>
  obtain ⟨k,hk,rfl,rfl,hO⟩ := hrel
  clear H3
  by_cases hlt : k < n
  ·obtain ⟨x,hx⟩ : ∃ x,E[k]? = some x := ⟨_,List.getElem?_eq_getElem (by rw [HG.out.1]; exact hlt)⟩
   obtain ⟨g,o,hga,hc0,hc1,-⟩ := (HG.out.2.2.2.1 wr hO.tail.tail).at hx
   subst hga
   have hlt' : (k : Int) < (n : Int) := by omega
   have hxe := evs_at hx
   have hxm := List.mem_of_getElem? hxe
   have htk : (evs E).take (k + 1) = (evs E).take k ++ [(x.id,x.C)] := by rw [List.take_add_one,hxe]; rfl
   have hil : x.id < 4294967296 := (HG.out.2.2.2.2 x (List.mem_of_getElem? hx)).1
   have hok := HG.out.2.2.1 _ hxm
   have hla : lastI 0 (((evs E).take k).map (·.1)) < x.id := by
    have hP : (((evs E).take (k + 1)).map (·.1)).Pairwise (· < ·) := List.pairwise_map.2 (HG.out.2.1.sublist (List.take_sublist _ _))
    rw [htk,List.map_append] at hP
    refine lastI_lt hP (fun y hy => ?_)
    have hy2 : y ∈ ((evs E).take (k + 1)).map (·.1) := by rw [htk,List.map_append]; exact hy
    obtain ⟨z,hz,rfl⟩ := List.mem_map.1 hy2
    have := (HG.out.2.2.1 z (List.mem_of_mem_take hz)).1
    omega
   have hsz := entsB_le 0 ((evs E).take k) (fun z hz => by
    obtain ⟨y,hy,rfl⟩ := List.mem_map.1 (List.mem_of_mem_take hz)
    exact (HG.out.2.2.2.2 y hy).1)
   rw [List.length_take] at hsz
   have hcz := cszV_take (evs E) hxe
   rw [cszV_evs] at hcz
   simp only at hcz hok
   have hcs : (cpsB x.C).length ≤ 60 * x.C.length := cpsB_le x.C
   have hLN := HL.out
   have hib := idB_le (lastI 0 (((evs E).take k).map (·.1))) x.id hil
   have hb1 : g < wr.heap.size := World.block_lt_of_cell? wr _ hc0
   have hb2 : wr.heap.size ≠ g := by omega
   have hB := (hO.allocC #[.int .u32 (x.id : Int),.slice x.ao x.C.length x.cap] 60).two.in23
   have HP : Hid (Calls _ _ _ _ _) := pid w0 _ _ p b _ (lastI 0 (((evs E).take k).map (·.1))) x.id hB hla hil (by rw [List.length_append,List.length_append]; omega)
   have HT2 : Hid (lastI 0 (((evs E).take (k + 1)).map (·.1)) = x.id ∧ entsB 0 ((evs E).take (k + 1)) = entsB 0 ((evs E).take k) ++ entB (lastI 0 (((evs E).take k).map (·.1))) (x.id,x.C)) := by
    rw [htk]
    exact ⟨by rw [List.map_append]; exact lastI_snoc _ _ _,entsB_snoc _ _ _⟩
   have hls := lst_ok hok.2.1
   have HMK : Hid (∀ W X,Own w0 W (X ++ l) → Calls Tryz.prog 158 #[.slice x.ao x.C.length x.cap] W fun e w' => e = .returned (.int .u8 ((msk x.C : Nat) : Int)) ∧ Own w0 w' (X ++ l)) := fun W X hX => by
    refine (mask_any W x.ao x.C.length x.cap x.C rfl ((HG.out.2.2.2.1 W hX.dropA).2 x (List.mem_of_getElem? hx)) (HG.out.2.2.2.2 x (List.mem_of_getElem? hx)).2 (by omega)).mono ?_
    rintro e w' ⟨rfl,hf⟩
    exact ⟨rfl,hX.quiet hf⟩
   have hm32 := msk_lt32 hok.2.2
   have HMP : Hid (∀ W M X,Own w0 W (penC p b :: WrT b M :: X :: l) → M.length + 5 ≤ 1048576 → Calls Tryz.prog 157 #[.pointer (some ⟨p,0,none⟩),.int .u8 ((msk x.C : Nat) : Int)] W fun e w' => e = .returned (.tuple #[]) ∧ Own w0 w' (penC p b :: WrT b (M ++ bitsN 5 (msk x.C)) :: X :: l)) := fun W M X hW hM => pmask w0 W _ p b M (msk x.C) hW hm32 hM
   have HCP : Hid (∀ W M X,Own w0 W (penC p b :: WrT b M :: X :: l) → M.length + 60 * x.C.length + 200 ≤ 1048576 → Calls Tryz.prog 159 #[.pointer (some ⟨p,0,none⟩),.slice x.ao x.C.length x.cap] W fun e w' => e = .returned (.tuple #[]) ∧ Own w0 w' (penC p b :: WrT b (M ++ cpsB x.C) :: X :: l)) := fun W M X hW hM => pcomps w0 W HT.out _ p b M x.ao x.C.length x.cap x.C hW (fun w' hw' => (HG.out.2.2.2.1 w' hw'.tail).2 x (List.mem_of_getElem? hx)) rfl (HG.out.2.2.2.2 x (List.mem_of_getElem? hx)).2 (fun q hq => (hls.2 q hq).2) hM
   have HLL : Hid (((L ++ var n) ++ entsB 0 ((evs E).take k)).length + 100 + 60 * x.C.length + 200 ≤ 1048576 ∧ (idB (lastI 0 (((evs E).take k).map (·.1))) x.id).length ≤ 80) := ⟨by rw [List.length_append,List.length_append]; omega,hib⟩
   obtain ⟨la,hlaE⟩ : ∃ la,la = lastI 0 (((evs E).take k).map (·.1)) := ⟨_,rfl⟩
   rw [← hlaE] at HP HT2 HLL
   rw [← hlaE]
   clear hO hla hlaE htk hok hls hsz hcz hcs hib hLN hxe hxm hm32
   have q0 := hB.three.cell 0
   have q1 := hB.three.cell 1
   simp at q0 q1
   clear hB hx
   obtain ⟨xi,xa,xc,xC⟩ := x
   simp only at hc0 hc1 hil HP HT2 HMK HMP HCP HLL q0 q1
   generalize xC.length = xl at *
   go_wp2_with fail
   refine HP.out.mono ?_
   rintro e w2 ⟨rfl,h2⟩
   generalize wr.heap.size = bx at *
   have r1 := h2.three.cell 1
   simp at r1
   have HM1 : Hid (Calls _ _ _ _ _) := HMK.out w2 [_,_,_] h2
   clear h2 HP q0 q1 hc0 hc1 hb1 hb2
   go_wp2_with fail
   refine HM1.out.mono ?_
   rintro e w3 ⟨rfl,h3⟩
   have HM2 : Hid (Calls _ _ _ _ _) := HMP.out w3 _ _ h3 (by have := HLL.out; rw [List.length_append]; omega)
   clear h3 HM1 r1
   go_wp2_with fail
   refine HM2.out.mono ?_
   rintro e w4 ⟨rfl,h4⟩
   have r2 := h4.three.cell 1
   simp at r2
   have HM3 : Hid (Calls _ _ _ _ _) := HCP.out w4 _ _ h4 (by have := HLL.out; rw [List.length_append,List.length_append,length_bitsN]; omega)
   clear h4 HM2
   go_wp2_with fail
   refine HM3.out.mono ?_
   rintro e w5 ⟨rfl,h5⟩
   have r3 := h5.three.cell 0
   simp at r3
   have H4 : Hid (Own w0 w5 (penC p b :: WrT b ((L ++ var n) ++ entsB 0 ((evs E).take (k + 1))) :: l)) := by
    show Own _ _ _
    rw [HT2.out.2]
    unfold entB
    have h6 := h5.three.tail
    simp only [List.append_assoc] at h6 ⊢
    exact h6
   clear h5 HM3 r2 HMK HMP HCP
   go_wp2
   go_roundw
   case rel => exact ⟨k + 1,by omega,by go_num,by rw [HT2.out.1],H4.out⟩
   case measure => simp [intOf]; omega
  ·have hk2 : k = n := by omega
   subst hk2
   have hlt' : ¬ (k : Int) < (k : Int) := by omega
   have H4 : Hid (Own w0 wr (penC p b :: WrT b ((L ++ var k) ++ entsB 0 (evs E)) :: l)) := by
    have := hO
    rw [List.take_of_length_le (by rw [evs_len,HG.out.1]; exact Nat.le_refl _)] at this
    exact this
   clear hO
   go_wp2
   go_end0
   exact ⟨rfl,by first | exact H4.out | (rw [← List.append_assoc]; exact H4.out)⟩
theorem cpsB_at {C : List Cp} {j : Nat} {q : Cp} (h : C[j]? = some q) : cpsB C = cpsB (C.take j) ++ (cpB q ++ cpsB (C.drop (j + 1))) := by
 have hj := (List.getElem?_eq_some_iff.1 h)
 have e : C = C.take j ++ (q :: C.drop (j + 1)) := by
  have h1 := List.drop_eq_getElem_cons hj.1
  rw [hj.2] at h1
  rw [← h1,List.take_append_drop]
 have e2 : cpsB C = cpsB (C.take j ++ (q :: C.drop (j + 1))) := by rw [← e]
 rw [e2,cpsB_app]
 rfl
theorem un_has5 {C : List Cp} (h : un C = false) : hasK C 5 = false := by
 cases hh : hasK C 5 with
 | false => rfl
 | true =>
  obtain ⟨x,hx⟩ := hasK_fst hh
  have h1 := fst_some hx
  unfold un at h
  rw [List.any_eq_false] at h
  have := h x h1.1
  rw [h1.2,told5] at this
  simp at this
end Go.Proofs.YtgifeckbflkkpaaGreatDoor
