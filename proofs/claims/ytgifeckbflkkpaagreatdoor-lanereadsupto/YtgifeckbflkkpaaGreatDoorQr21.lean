/- The document's source: IDs, masks, components that are there are read. -/
import Derived.Test.YtgifeckbflkkpaaGreatDoorQr07
import Derived.Test.YtgifeckbflkkpaaGreatDoorQr10
import Derived.Test.YtgifeckbflkkpaaGreatDoorQr20
import Derived.Test.YtgifeckbflkkpaaGreatDoorQr11
import Derived.Test.YtgifeckbflkkpaaGreatDoorQr19
import Derived.Deep.RegionHeld3
import Derived.Test.YtgifeckbflkkpaaGreatDoorQr17
import Derived.Test.YtgifeckbflkkpaaGreatDoorQr16
namespace Go.Proofs.YtgifeckbflkkpaaGreatDoor
open Go.RowKit
set_option linter.unusedVariables false
set_option maxHeartbeats 4000000
set_option maxRecDepth 100000
theorem append1_src {P : Program} {w0 w : World} {l : List Thing} {b : Nat} {L : List Bool} {bad : Bool} {ops : Array Oper} {rest : List Oper} {o : Oper} {a : Act} {Q : Exit → Act → World → Prop} (hgd : o.guard = none) (s x : Operand) (t : TypeId)
  (ho : o.op = .call { callee := .builtin .append,args := #[s,x],argTypes := #[t,t] })
  (e : TypeId) (i : TypeInfo) (z : Value) (size bytes : Nat) (ht : P.underlying t = some (.slice e)) (hi : P.info? e = some i) (hz : i.zero = some z)
  (hsize : i.size = size) (hby : i.bytes = bytes) (hzs : z.cells.size = size) (hsz : 0 < size) (he : e ≠ 4)
  (v : Value) (n : Nat) (xs : List Value) (hs : a.eval s = v) (hown : SrcO w0 w b L bad (Row e size v n xs :: l))
  (k : Nat) (cs : Array Value) (hk : k = w.heap.size) (hx : a.eval x = .slice (some ⟨k,0,none⟩) 1 1) (hl : cs.size = size) (h1 : ∀ u ∈ cs.toList,u.oneCell' = true)
  (h63 : n + 1 ≤ maxLen) (hbytes : (n + 1) * bytes ≤ 140737488355328)
  (h : ∀ g cap w',SrcO w0 w' b L bad (Row e size (.slice (some ⟨g,0,none⟩) (n + 1) cap) (n + 1) (xs ++ cs.toList) :: l) → wpList P ops Q rest (a.put o.dst (.slice (some ⟨g,0,none⟩) (n + 1) cap)) w') : wpList P ops Q (o :: rest) a (w.alloc (.cells cs e)) := by
 obtain ⟨sv,hO,hb⟩ := hown.quiet ((Fr.refl Nobody w).alloc (.cells cs e))
 have hr := hO.two.row
 refine wpList_append_ours _ hgd s x t ho e i z size bytes ht hi hz hsize hby hzs hsz v n xs hs hr ⟨k,0,none⟩ 1 1 cs.toList hx (by simp [hl]) (cells_new w cs e k hk) h1 (by decide) h63 hbytes ?_
 intro v' w' r g kk
 obtain ⟨g',cap,rfl,hk'⟩ := id kk
 refine h g' cap w' ⟨sv,(hO.two.grow r g kk.own).two,?_⟩
 refine hb.keep (S := fun q => v.ownBlock = some q) ((Fr.refl _ _).grown g (fun q hq => .inl hq)) ?_
 intro q cur hq hv
 rcases hr.2 with ⟨rfl,_⟩ | ⟨g2,cap2,cur2,rfl,_,hg2,_⟩
 ·simp [Value.ownBlock] at hv
 ·simp [Value.ownBlock] at hv
  subst hv
  rw [hg2] at hq
  simp at hq
  exact he hq.2
theorem sid (w0 w : World) (l : List Thing) (b : Nat) (L R : List Bool) (a i : Nat) (h : SrcO w0 w b L false l) (ha : a < i) (hi : i < 4294967296) (hs : L = idB a i ++ R) (hL : L.length ≤ 100000) :
  Calls Tryz.prog 49 #[.pointer (some ⟨b,0,none⟩),.int .u32 (a : Int)] w fun x w' => x = .returned (.int .u32 (i : Int)) ∧ SrcO w0 w' b R false l := by
 obtain ⟨n,hn⟩ : ∃ n,n = i - a - 1 := ⟨_,rfl⟩
 have HC : Hid (Calls _ _ _ _ _) := scount w0 w l b L R false h n (by omega) (by rw [hs,hn]; rfl) hL
 have HN : Hid (a + n + 1 = i) := by show _ = _; omega
 have hn32 : n < 4294967296 := by omega
 have hgt : ¬ (4294967295 : Int) < (n : Int) := by omega
 have hsum : (a : Int) + (n : Int) + 1 < 4294967296 := by omega
 have hsum0 : (a : Int) + (n : Int) < 4294967296 := by omega
 clear h hs hL hn
 go_enter Tryz.func49,Tryz.ntmps49
 go_wp2_with fail
 refine HC.out.mono ?_
 rintro x w1 ⟨rfl,h1⟩
 have q1 := h1.bad
 have z1 := h1.fz 1
 have H1 : Hid (∀ bb,bb = false → SrcO w0 (w1.setCell ⟨b,1,none⟩ (.bool bb)) b R false l) := fun bb hb => by
  subst hb
  exact h1.setBad false
 clear h1 HC
 go_wp2
 go_ret
 refine ⟨?_,H1.out _ (decide_eq_false (by omega))⟩
 rw [← HN.out]
 go_num
theorem kl_pre (m : Nat) {k n : Nat} (h : k ≤ n) : ∃ X,kl m n = kl m k ++ X := by
 induction n with
 | zero => exact ⟨[],by rw [Nat.le_zero.1 h]; simp⟩
 | succ n ih =>
  by_cases hk : k = n + 1
  ·exact ⟨[],by rw [hk]; simp⟩
  ·obtain ⟨X,hX⟩ := ih (by omega)
   by_cases hb : m / 2 ^ n % 2 = 1
   ·exact ⟨X ++ [n],by rw [kl_on hb,hX,List.append_assoc]⟩
   ·exact ⟨X,by rw [kl_off hb,hX]⟩
theorem kl_next {C : List Cp} {m k j : Nat} (hkk : kl m 5 = C.map (·.k)) (hj : j ≤ C.length) (h : kl m k = (C.take j).map (·.k)) (hk : k < 5) (hb : m / 2 ^ k % 2 = 1) : ∃ q,C[j]? = some q ∧ q.k = k ∧ kl m (k + 1) = (C.take (j + 1)).map (·.k) := by
 obtain ⟨X,hX⟩ := kl_pre m (k := k + 1) (n := 5) (by omega)
 rw [kl_on hb,hkk,h] at hX
 have hl : ((C.take j).map (·.k)).length = j := by rw [List.length_map,List.length_take]; omega
 have h2 := congrArg (fun L => L[j]?) hX
 simp only at h2
 rw [List.append_assoc,List.getElem?_append_right (by omega),hl,List.getElem?_map] at h2
 cases hq : C[j]? with
 | none => rw [hq] at h2; simp at h2
 | some q =>
  rw [hq] at h2
  simp at h2
  refine ⟨q,rfl,h2,?_⟩
  rw [kl_on hb,h,List.take_add_one,hq,List.map_append]
  simp [h2]
theorem cpB_posL {q : Cp} (h : chk q.k (f3 q.a q.b q.c) = 0) : 1 ≤ (cpB q).length := by
 have h6 := (chk_ok _ _ h).1
 unfold cpB
 rw [length_cb]
 have e : q.k = 0 ∨ q.k = 1 ∨ q.k = 2 ∨ q.k = 3 ∨ q.k = 4 ∨ q.k = 5 := by omega
 rcases e with e | e | e | e | e | e <;> rw [e] <;> decide +kernel
theorem scomps (w0 w : World) (l : List Thing) (b : Nat) (P : List Nat) (t : Nat) (C : List Cp) (R : List Bool) (hP : (bitsB P).length ≤ 100000) (ht : t ≤ 8 * P.length) (h : SrcO w0 w b ((bitsB P).drop t) false l) (hC : lst (-1) C = 0) (hu : un C = false) (hb : (bitsB P).drop t = cpsB C ++ R) :
  Calls Tryz.prog 51 #[.pointer (some ⟨b,0,none⟩),.int .u64 ((msk C : Nat) : Int)] w fun e w' => ∃ ao cap,e = .returned (.slice ao C.length cap) ∧ SrcO w0 w' b ((bitsB P).drop (t + (cpsB C).length)) false (Row 63 4 (.slice ao C.length cap) C.length (ccat C) :: l) := by
 obtain ⟨ic,hic,hz0,hz1,hz2⟩ := info_parts Tryz.infoComp
 have hg := good_of hC
 have hkk := kl_kinds hg (un_has5 hu)
 have hls := lst_ok hC
 have hm32 := msk_lt32 hu
 generalize msk C = mm at *
 have hn : C.length ≤ 5 := by
  have := kl_len mm 5
  rw [hkk,List.length_map] at this
  exact this
 have HCC : Hid ((∀ q ∈ C,chk q.k (f3 q.a q.b q.c) = 0) ∧ (bitsB P).drop t = cpsB C ++ R ∧ kl mm 5 = C.map (·.k) ∧ (bitsB P).length ≤ 100000 ∧ t ≤ 8 * P.length) := ⟨fun q hq => (hls.2 q hq).2,hb,hkk,hP,ht⟩
 have H0 : Hid (SrcO w0 w b ((bitsB P).drop (t + (cpsB (C.take 0)).length)) false (Row 63 4 (.slice none 0 0) 0 (ccat (C.take 0)) :: l)) := by
  obtain ⟨sv,hO,hB⟩ := h
  exact ⟨sv,(hO.nilRow _ _).two,hB⟩
 clear h hkk hg hC hu hb hls hP ht
 go_enter Tryz.func51,Tryz.ntmps51
 go_wp2
 go_loopw [5,10] (fun x5 vk wr => ∃ (k j : Nat) (ao : Option Addr) (cap : Nat),k ≤ 5 ∧ vk = .int .u8 (k : Int) ∧ x5 = .slice ao j cap ∧ j ≤ C.length ∧ kl mm k = (C.take j).map (·.k) ∧ SrcO w0 wr b ((bitsB P).drop (t + (cpsB (C.take j)).length)) false (Row 63 4 (.slice ao j cap) j (ccat (C.take j)) :: l)) (fun _ vk _ => 5 - (intOf vk).toNat)
 case atStart => exact ⟨0,0,none,0,by decide,rfl,rfl,Nat.zero_le _,rfl,H0.out⟩
 case round =>
  obtain ⟨k,j,ao,cap,hk,rfl,rfl,hj,hkj,hO⟩ := hrel
  clear H0
  by_cases hlt : k < 5
  ·have hlt' : (k : Int) < 5 := by omega
   have eI : ((mm : Int) / 2 ^ k).tmod 2 = ((mm / 2 ^ k % 2 : Nat) : Int) := by
    have e0 : ((mm : Int) / 2 ^ k) = ((mm / 2 ^ k : Nat) : Int) := by simp
    rw [e0]
    exact (Int.tmod_eq_emod_of_nonneg (Int.natCast_nonneg _)).trans (by simp)
   by_cases hbit : mm / 2 ^ k % 2 = 1
   ·obtain ⟨q,hq,hqk,hk1⟩ := kl_next HCC.out.2.2.1 hj hkj hlt hbit
    rw [hbit] at eI
    have hmod : ((mm : Int) / 2 ^ k).tmod 2 = 1 := eI
    have hd := drop_next (show (bitsB P).drop t = cpsB (C.take j) ++ (cpB q ++ (cpsB (C.drop (j + 1)) ++ R)) by rw [HCC.out.2.1,cpsB_at hq]; simp only [List.append_assoc]) rfl
    have hq0 := HCC.out.1 q (List.mem_of_getElem? hq)
    have HTK : Hid (t + (cpsB (C.take (j + 1))).length = t + (cpsB (C.take j)).length + (cpB q).length ∧ ccat (C.take (j + 1)) = ccat (C.take j) ++ [.int .u8 (q.k : Int),.int .i32 q.a,.int .i32 q.b,.int .i32 q.c] ∧ kl mm (k + 1) = (C.take (j + 1)).map (·.k)) := by
     refine ⟨?_,?_,hk1⟩
     ·rw [List.take_add_one,hq,cpsB_app,List.length_append]
      simp [cpsB]; omega
     ·rw [List.take_add_one,hq]
      unfold ccat cat
      rw [List.flatMap_append]
      simp [Cp.cs]
    have htj : t + (cpsB (C.take j)).length ≤ 8 * P.length := by
     have h1 := congrArg List.length hd
     have h2 : (bitsB P).length = 8 * P.length := length_bitsB P
     have h3 : 1 ≤ (cpB q).length := cpB_posL hq0
     rw [List.length_drop,List.length_append] at h1
     omega
    obtain ⟨s1,s2⟩ := split_at htj hd
    obtain ⟨g1,g2,g3⟩ := get_back q.k (f3 q.a q.b q.c) P ((bitsB P).take (t + (cpsB (C.take j)).length)) _ s1 hq0
    rw [s2] at g1 g2 g3
    have hl : (cpB q).length = bitsK q.k := by unfold cpB bitsK; rw [length_cb]
    have hq8 : q.k < 6 := (chk_ok _ _ hq0).1
    have HJ : Hid (j + 1 ≤ C.length) := (List.getElem?_eq_some_iff.1 hq).1
    obtain ⟨sv,hO1,hB⟩ := hO
    have hgc := rgetC_any wr sv P (t + (cpsB (C.take j)).length) q.k (by omega) hB HCC.out.2.2.2.1 (cmp q.k (f3 q.a q.b q.c)) (fun _ => g3.symm) (fun h => absurd g1 h)
    rw [g1,g2,← hl,hqk] at hgc
    rw [hqk] at HTK
    have HG : Hid (Calls Tryz.prog 106 #[sv,.int .u8 (k : Int)] wr fun e w' => ∃ u,e = .returned (.tuple #[.agg #[.int .u8 (k : Int),.int .i32 q.a,.int .i32 q.b,.int .i32 q.c],u,.int .i64 0]) ∧ GvRest wr w' u ((bitsB P).drop (t + (cpsB (C.take j)).length + (cpB q).length))) := hgc
    have p0 := hO1.cell 0
    have p1 := hO1.cell 1
    simp at p0 p1
    have HO1 : Hid (Own w0 wr _) := hO1
    clear hO1 hd hq0 hq s1 s2 g1 g2 g3 hl hgc hB hbit eI hk1 hkj htj hqk
    obtain ⟨qk,qa,qb,qc⟩ := q
    simp only at HTK hq8 HG
    generalize t + (cpsB (C.take j)).length = tj at *
    generalize (cpB ⟨qk,qa,qb,qc⟩).length = cl at *
    generalize ccat (C.take j) = cc at *
    go_wp2_with fail
    refine HG.out.mono ?_
    rintro x w2 ⟨u,rfl,hB2,hf2⟩
    obtain ⟨ua,uc,rfl⟩ := hB2.shape
    obtain ⟨RL,hRL⟩ : ∃ RL,RL = (bitsB P).drop (tj + cl) := ⟨_,rfl⟩
    rw [← hRL] at hB2 ⊢
    have HRL : Hid (RL = (bitsB P).drop (tj + cl)) := hRL
    have h3 := ((HO1.out.quiet hf2).allocC #[.int .u8 (k : Int),.int .i32 qa,.int .i32 qb,.int .i32 qc] 63).two
    have z0 := h3.froz 0
    have y0 := h3.cell 0
    have y1 := h3.cell 1
    simp at y0 y1
    have h4 := h3.setC 0 (.slice ua RL.length uc)
    simp at h4
    have z1 := h4.froz 1
    have r1 := h4.cell 1
    simp at r1
    have h5 := h4.setC 1 (.bool false)
    simp at h5
    have v0 := h5.two.cell 0
    have v1 := h5.two.cell 1
    have v2 := h5.two.cell 2
    have v3 := h5.two.cell 3
    simp at v0 v1 v2 v3
    have HS : Hid (SrcO w0 _ b RL false (Row 63 4 (.slice ao j cap) j cc :: l)) := ⟨_,h5.two.tail,bs_set h4 (by decide) (bs_set h3 (by decide) (hB2.quiet ((Fr.refl Nobody w2).alloc _)) 0 (.slice ua RL.length uc)) 1 (.bool false)⟩
    clear h3 h4 h5 hB2 hf2 HO1 HG p0 p1 hRL
    generalize RL.length = rl at *
    go_wp2_with (at_builtin; refine append1_src rfl _ _ 58 rfl 63 ic _ 4 16 Tryz.underlying58 hic hz0 hz1 hz2 rfl (by decide) (by decide) _ _ _ rfl HS.out _ #[.int .u8 (k : Int),.int .i32 qa,.int .i32 qb,.int .i32 qc] (by simp) rfl rfl (by intro u hu; simp at hu; rcases hu with rfl | rfl | rfl | rfl <;> rfl) (by unfold maxLen; omega) (by omega) ?_; intro g6 c6 w6 h6; have H6 : Hid (SrcO w0 w6 b RL false _) := h6; clear h6)
    go_roundw
    case rel => exact ⟨k + 1,j + 1,_,_,by omega,by go_num,rfl,HJ.out,HTK.out.2.2,by rw [HTK.out.1,HTK.out.2.1,← HRL.out]; exact H6.out⟩
    case measure => simp [intOf]; omega
   ·have hk1 := kl_off hbit
    have h0 : mm / 2 ^ k % 2 = 0 := by omega
    rw [h0] at eI
    have hmod : ((mm : Int) / 2 ^ k).tmod 2 = 0 := eI
    have HK : Hid (kl mm (k + 1) = (C.take j).map (·.k)) := by show _ = _; rw [hk1]; exact hkj
    have HO : Hid (SrcO w0 wr b _ false _) := hO
    have p1 := hO.bad
    clear hO eI hbit h0 hk1 hkj
    go_wp2
    go_roundw
    case rel => exact ⟨k + 1,j,ao,cap,by omega,by go_num,rfl,hj,HK.out,HO.out⟩
    case measure => simp [intOf]; omega
  ·have hk5 : k = 5 := by omega
   subst hk5
   have hjl : j = C.length := by
    have h1 := congrArg List.length (hkj.symm.trans HCC.out.2.2.1)
    rw [List.length_map,List.length_map,List.length_take] at h1
    omega
   subst hjl
   rw [List.take_of_length_le (Nat.le_refl _)] at hO
   have HO : Hid (SrcO w0 wr b _ false _) := hO
   clear hO hkj
   go_wp2
   go_ret
   exact ⟨ao,cap,rfl,HO.out⟩
theorem entsB_app (a : Nat) (X Y : List En) : entsB a (X ++ Y) = entsB a X ++ entsB (lastI a (X.map (·.1))) Y := by
 induction X generalizing a with
 | nil => rfl
 | cons x t ih => simp [entsB,lastI,ih x.1]
theorem entsB_at {N : List En} {j : Nat} {x : En} (h : N[j]? = some x) : entsB 0 N = entsB 0 (N.take j) ++ (entB (lastI 0 ((N.take j).map (·.1))) x ++ entsB x.1 (N.drop (j + 1))) := by
 have hj := (List.getElem?_eq_some_iff.1 h)
 have e : N = N.take j ++ (x :: N.drop (j + 1)) := by
  have h1 := List.drop_eq_getElem_cons hj.1
  rw [hj.2] at h1
  rw [← h1,List.take_append_drop]
 have e2 : entsB 0 N = entsB 0 (N.take j ++ (x :: N.drop (j + 1))) := by rw [← e]
 rw [e2,entsB_app]
 rfl
theorem SrcO.allocC {w0 w : World} {b : Nat} {L : List Bool} {bad : Bool} {l : List Thing} (h : SrcO w0 w b L bad l) (cur : Array Value) (ty : TypeId) : SrcO w0 (w.alloc (.cells cur ty)) b L bad (Cells w.heap.size cur ty :: l) := by
 obtain ⟨v,hO,hb⟩ := h
 exact ⟨v,(hO.allocC cur ty).two,hb.quiet ((Fr.refl Nobody w).alloc _)⟩
theorem SrcO.drew {w0 w : World} {b : Nat} {L : List Bool} {bad : Bool} {l : List Thing} (h : SrcO w0 w b L bad l) : SrcO w0 w.drew b L bad l := h.quiet (Fr.refl _ _).drew
theorem smask (w0 w : World) (l : List Thing) (b : Nat) (P : List Nat) (t m : Nat) (R : List Bool) (hP : (bitsB P).length ≤ 100000) (h : SrcO w0 w b ((bitsB P).drop t) false l) (hm : m < 32) (hb : (bitsB P).drop t = bitsN 5 m ++ R) :
  Calls Tryz.prog 50 #[.pointer (some ⟨b,0,none⟩),.int .i64 5] w fun x w' => x = .returned (.int .u64 (m : Int)) ∧ SrcO w0 w' b ((bitsB P).drop (t + 5)) false l := by
 have hl : ((bitsB P).drop t).length ≤ 100000 := by rw [List.length_drop]; omega
 have hs : 5 ≤ ((bitsB P).drop t).length := by rw [hb,List.length_append,length_bitsN]; omega
 have := splain w0 w l b _ false h 5 (by decide) hs hl
 rw [List.drop_drop] at this
 have e : num (((bitsB P).drop t).take 5) = m := by rw [hb,List.take_left' (length_bitsN _ _),num_bitsN]; exact Nat.mod_eq_of_lt (by omega)
 rw [e] at this
 exact this
theorem sents (w0 w : World) (l : List Thing) (b : Nat) (P : List Nat) (t : Nat) (N : List En) (R : List Bool) (hP : (bitsB P).length ≤ 100000) (ht : t ≤ 8 * P.length) (h : SrcO w0 w b ((bitsB P).drop t) false l) (hup : N.Pairwise (fun a b => a.1 < b.1)) (hok : ∀ x ∈ N,1024 ≤ x.1 ∧ lst (-1) x.2 = 0 ∧ un x.2 = false) (hid : ∀ x ∈ N,x.1 < 4294967296) (hn : N.length ≤ 10000) (hb : (bitsB P).drop t = var N.length ++ (entsB 0 N ++ R)) :
  Calls Tryz.prog 47 #[.pointer (some ⟨b,0,none⟩)] w fun e w' => ∃ ao cap,e = .returned (.slice ao N.length cap) ∧ ∃ M : List EnE,M.length = N.length ∧ evs M = N ∧ SrcO w0 w' b ((bitsB P).drop (t + (var N.length).length + (entsB 0 N).length)) false (EntsT ao cap M :: l) := by
 obtain ⟨i0,hi,hz0,hz1,hz2⟩ := info3w Tryz.infoEnt
 have hlP : (bitsB P).length = 8 * P.length := length_bitsB P
 have hbn := drop_next hb rfl
 have hl : ((bitsB P).drop t).length ≤ 100000 := by rw [List.length_drop]; omega
 have hc := scount w0 w l b _ ((bitsB P).drop (t + (var N.length).length)) false h N.length (by omega) (by rw [hbn]; exact hb) hl
 have HC : Hid (Calls _ _ _ _ _) := hc
 obtain ⟨tn,htn⟩ : ∃ tn,tn = t + (var N.length).length := ⟨_,rfl⟩
 rw [← htn] at hbn HC ⊢
 have HN : Hid (N.Pairwise (fun a b => a.1 < b.1) ∧ (∀ x ∈ N,1024 ≤ x.1 ∧ lst (-1) x.2 = 0 ∧ un x.2 = false) ∧ (∀ x ∈ N,x.1 < 4294967296) ∧ (bitsB P).drop tn = entsB 0 N ++ R ∧ (bitsB P).length ≤ 100000) := ⟨hup,hok,hid,hbn,hP⟩
 obtain ⟨nn,hnn⟩ : ∃ nn,nn = N.length := ⟨_,rfl⟩
 rw [← hnn] at HC hn ⊢
 have HNN : Hid (nn = N.length) := hnn
 clear h hc hb hbn hup hok hid ht hl hP htn hnn hlP
 go_enter Tryz.func47,Tryz.ntmps47
 go_wp2_with fail
 refine HC.out.mono ?_
 rintro e w1 ⟨rfl,h2⟩
 have H2 : Hid (SrcO w0 w1 b ((bitsB P).drop tn) false (Row 60 2 (.slice none 0 0) 0 [] :: l)) := by
  obtain ⟨sv,hO,hB⟩ := h2
  exact ⟨sv,(hO.nilRow _ _).two,hB⟩
 clear h2 HC
 go_wp2
 go_loopw [3,4,5] (fun x3 v4 v5 wr => ∃ (j r : Nat) (M : List EnE) (ao : Option Addr) (cap : Nat),j + r = nn ∧ v5 = .int .u64 (r : Int) ∧ v4 = .int .u32 ((lastI 0 ((N.take j).map (·.1)) : Nat) : Int) ∧ x3 = .slice ao j cap ∧ M.length = j ∧ evs M = N.take j ∧ SrcO w0 wr b ((bitsB P).drop (tn + (entsB 0 (N.take j)).length)) false (Row 60 2 (.slice ao j cap) j (cat EnE.cs M) :: (M.map erow ++ l))) (fun _ _ v5 _ => (intOf v5).toNat)
 case atStart => exact ⟨0,nn,[],none,0,by omega,rfl,rfl,rfl,rfl,rfl,H2.out⟩
 case round =>
  obtain ⟨j,r,M,ao,cap,hj,rfl,rfl,rfl,hMl,hM,hO⟩ := hrel
  have HM : Hid (M.length = j ∧ evs M = N.take j) := ⟨hMl,hM⟩
  clear H2 hMl hM
  by_cases hlt : 0 < r
  ·obtain ⟨x,hx⟩ : ∃ x,N[j]? = some x := ⟨_,List.getElem?_eq_getElem (by rw [← HNN.out]; omega)⟩
   have hlt' : (0 : Int) < (r : Int) := by omega
   have hxm := List.mem_of_getElem? hx
   have htk : N.take (j + 1) = N.take j ++ [x] := by rw [List.take_add_one,hx]; rfl
   have hil := HN.out.2.2.1 x hxm
   have hokx := HN.out.2.1 x hxm
   have hla : lastI 0 ((N.take j).map (·.1)) < x.1 := by
    have hP : ((N.take (j + 1)).map (·.1)).Pairwise (· < ·) := List.pairwise_map.2 (HN.out.1.sublist (List.take_sublist _ _))
    rw [htk,List.map_append] at hP
    refine lastI_lt hP (fun y hy => ?_)
    have hy2 : y ∈ (N.take (j + 1)).map (·.1) := by rw [htk,List.map_append]; exact hy
    obtain ⟨z,hz,rfl⟩ := List.mem_map.1 hy2
    have := (HN.out.2.1 z (List.mem_of_mem_take hz)).1
    omega
   have hd0 := drop_next (show (bitsB P).drop tn = entsB 0 (N.take j) ++ (idB (lastI 0 ((N.take j).map (·.1))) x.1 ++ (bitsN 5 (msk x.2) ++ (cpsB x.2 ++ (entsB x.1 (N.drop (j + 1)) ++ R)))) by rw [HN.out.2.2.2.1,entsB_at hx]; unfold entB; simp only [List.append_assoc]) rfl
   have hd1 := drop_next hd0 rfl
   have hd2 := drop_next hd1 (length_bitsN _ _)
   have hsz : ∀ s,((bitsB P).drop s).length ≤ 100000 := fun s => by rw [List.length_drop]; have := HN.out.2.2.2.2; omega
   obtain ⟨t1,ht1⟩ : ∃ t1,t1 = tn + (entsB 0 (N.take j)).length + (idB (lastI 0 ((N.take j).map (·.1))) x.1).length := ⟨_,rfl⟩
   rw [← ht1] at hd1 hd2
   have HP : Hid (Calls _ _ _ _ _) := sid w0 _ _ b _ ((bitsB P).drop t1) (lastI 0 ((N.take j).map (·.1))) x.1 hO hla hil (by rw [hd1]; exact hd0) (hsz _)
   have HMK : Hid (∀ Z LL,SrcO w0 Z b ((bitsB P).drop t1) false LL → Calls Tryz.prog 50 #[.pointer (some ⟨b,0,none⟩),.int .i64 5] Z fun e w' => e = .returned (.int .u64 ((msk x.2 : Nat) : Int)) ∧ SrcO w0 w' b ((bitsB P).drop (t1 + 5)) false LL) := fun Z LL hZ => smask w0 Z LL b P t1 (msk x.2) _ HN.out.2.2.2.2 hZ (msk_lt32 hokx.2.2) hd1
   have ht5 : t1 + 5 ≤ 8 * P.length := by
    have h1 := congrArg List.length hd1
    rw [List.length_drop,List.length_append,length_bitsN,length_bitsB] at h1
    omega
   have HCP : Hid (∀ Z LL,SrcO w0 Z b ((bitsB P).drop (t1 + 5)) false LL → Calls Tryz.prog 51 #[.pointer (some ⟨b,0,none⟩),.int .u64 ((msk x.2 : Nat) : Int)] Z fun e w' => ∃ ao cap,e = .returned (.slice ao x.2.length cap) ∧ SrcO w0 w' b ((bitsB P).drop (t1 + 5 + (cpsB x.2).length)) false (Row 63 4 (.slice ao x.2.length cap) x.2.length (ccat x.2) :: LL)) := fun Z LL hZ => scomps w0 Z LL b P (t1 + 5) x.2 _ HN.out.2.2.2.2 ht5 hZ hokx.2.1 hokx.2.2 hd2
   have HTK : Hid (tn + (entsB 0 (N.take (j + 1))).length = t1 + 5 + (cpsB x.2).length ∧ lastI 0 ((N.take (j + 1)).map (·.1)) = x.1) := by
    rw [htk,entsB_app,List.map_append,ht1,List.length_append]
    refine ⟨?_,lastI_snoc _ _ _⟩
    simp only [entsB,entB,List.append_nil,List.length_append,length_bitsN]
    omega
   have HM2 : Hid (∀ a c,evs (M ++ [EnE.mk x.1 a c x.2]) = N.take (j + 1)) := fun a c => by
    have e := HM.out.2
    unfold evs at e ⊢
    rw [List.map_append,e,htk]
    rfl
   have hml := msk_lt32 hokx.2.2
   have hc5 : x.2.length ≤ 5 := by
    have := kl_len (msk x.2) 5
    rw [kl_kinds (good_of hokx.2.1) (un_has5 hokx.2.2),List.length_map] at this
    exact this
   obtain ⟨la,hlaE⟩ : ∃ la,la = lastI 0 ((N.take j).map (·.1)) := ⟨_,rfl⟩
   rw [← hlaE] at HP
   rw [← hlaE]
   have p1 := hO.bad
   clear hO hla hlaE htk hd0 hd1 hd2 hx hxm ht1 hokx hsz ht5
   obtain ⟨xi,xC⟩ := x
   simp only at hil HP HMK HCP HTK HM2 hml hc5
   generalize msk xC = mm at *
   obtain ⟨cl,hcl⟩ : ∃ cl,cl = xC.length := ⟨_,rfl⟩
   rw [← hcl] at HCP hc5
   have HCL : Hid (xC.length = cl) := hcl.symm
   clear hcl
   go_wp2_with fail
   refine HP.out.mono ?_
   rintro e w2 ⟨rfl,h3⟩
   have h3 := h3.allocC #[.int .u32 (xi : Int),.slice none 0 0] 60
   have s0 := h3.cellH 0
   simp at s0
   have HMC : Hid (Calls _ _ _ _ _) := HMK.out _ _ h3
   clear h3 HP p1
   go_wp2_with fail
   refine HMC.out.mono ?_
   rintro e w3 ⟨rfl,h4⟩
   generalize w2.heap.size = be at *
   have HCC : Hid (Calls _ _ _ _ _) := HCP.out _ _ h4
   clear h4 HMC HMK s0
   go_wp2_with fail
   refine HCC.out.mono ?_
   rintro e w4 ⟨a5,c5,rfl,h5⟩
   have h5 := h5.perm (List.Perm.swap _ _ _)
   have y0 := h5.cellH 0
   have y1 := h5.cellH 1
   have z1 := h5.fzH 1
   simp at y0 y1
   have h6 := h5.setH (by decide) 1 (.slice a5 cl c5)
   simp at h6
   have v0 := h6.cellH 0
   have v1 := h6.cellH 1
   simp at v0 v1
   have H6 : Hid (SrcO w0 _ b ((bitsB P).drop (t1 + 5 + (cpsB xC).length)) false (Row 60 2 (.slice ao j cap) j (cat EnE.cs M) :: Row 63 4 (.slice a5 cl c5) cl (ccat xC) :: (M.map erow ++ l))) := (h6.tail).perm (List.Perm.swap _ _ _)
   clear h5 h6 HCC HCP
   go_wp2_with (at_builtin; refine append1_src rfl _ _ 23 rfl 60 i0 (.agg #[.int .u32 0,.slice none 0 0]) 2 32 Tryz.underlying23 hi hz0 hz1 hz2 rfl (by decide) (by decide) _ _ _ rfl H6.out _ #[.int .u32 (xi : Int),.slice a5 cl c5] (by simp) rfl rfl (by intro u hu; simp at hu; rcases hu with rfl | rfl <;> rfl) (by unfold maxLen; omega) (by omega) ?_)
   intro g7 c7 w7 h7
   have H7 : Hid (SrcO w0 w7 b _ false _) := h7
   clear h7
   have H8 : Hid (SrcO w0 w7 b ((bitsB P).drop (tn + (entsB 0 (N.take (j + 1))).length)) false (Row 60 2 (.slice (some ⟨g7,0,none⟩) (j + 1) c7) (j + 1) (cat EnE.cs (M ++ [EnE.mk xi a5 c5 xC])) :: ((M ++ [EnE.mk xi a5 c5 xC]).map erow ++ l))) := by
    have e1 : cat EnE.cs (M ++ [EnE.mk xi a5 c5 xC]) = cat EnE.cs M ++ [.int .u32 (xi : Int),.slice a5 cl c5] := by
     rw [cat_append]
     congr 1
     simp [cat,EnE.cs,HCL.out]
    have e2 : (M ++ [EnE.mk xi a5 c5 xC]).map erow ++ l = M.map erow ++ (Row 63 4 (.slice a5 cl c5) cl (ccat xC) :: l) := by
     simp [erow,HCL.out]
    show SrcO _ _ _ _ _ _
    rw [e1,e2,HTK.out.1]
    exact H7.out.perm (List.Perm.cons _ List.perm_middle.symm)
   clear H7 H6
   go_wp2
   go_roundw
   case rel => exact ⟨j + 1,r - 1,M ++ [EnE.mk xi a5 c5 xC],some ⟨g7,0,none⟩,c7,by omega,by go_num,by rw [HTK.out.2],rfl,by rw [List.length_append,HM.out.1]; rfl,HM2.out a5 c5,H8.out⟩
   case measure => simp [intOf]; omega
  ·have hr0 : r = 0 := by omega
   subst hr0
   have hjn : j = nn := by omega
   subst hjn
   have HF : Hid (evs M = N) := by
    have := HM.out.2
    rw [List.take_of_length_le (by rw [HNN.out]; exact Nat.le_refl _)] at this
    exact this
   have HE : Hid (SrcO w0 wr b ((bitsB P).drop (tn + (entsB 0 N).length)) false (EntsT ao cap M :: l)) := by
    have h1 := hO
    rw [List.take_of_length_le (by rw [HNN.out]; exact Nat.le_refl _)] at h1
    obtain ⟨sv,hO2,hB⟩ := h1
    refine ⟨sv,?_,hB⟩
    have h2 := hO2
    rw [← HM.out.1] at h2
    exact (Own.ents (h2.perm (List.perm_middle (l₁ := Row 60 2 (.slice ao M.length cap) M.length (cat EnE.cs M) :: M.map erow) (l₂ := l)).symm)).two
   clear hO
   go_wp2
   go_ret
   exact ⟨ao,cap,rfl,M,HM.out.1,HF.out,HE.out⟩
theorem idsB_app (a : Nat) (X Y : List Nat) : idsB a (X ++ Y) = idsB a X ++ idsB (lastI a X) Y := by
 induction X generalizing a with
 | nil => rfl
 | cons x t ih => simp [idsB,lastI,ih x]
theorem idsB_at {G : List Nat} {j i : Nat} (h : G[j]? = some i) : idsB 0 G = idsB 0 (G.take j) ++ (idB (lastI 0 (G.take j)) i ++ idsB i (G.drop (j + 1))) := by
 have hj := (List.getElem?_eq_some_iff.1 h)
 have e : G = G.take j ++ (i :: G.drop (j + 1)) := by
  have h1 := List.drop_eq_getElem_cons hj.1
  rw [hj.2] at h1
  rw [← h1,List.take_append_drop]
 have e2 : idsB 0 G = idsB 0 (G.take j ++ (i :: G.drop (j + 1))) := by rw [← e]
 rw [e2,idsB_app]
 rfl
def insc (C : List Cp) (c : Cp) : List Cp := C.takeWhile (fun q => decide (q.k < c.k)) ++ c :: (C.dropWhile (fun q => decide (q.k < c.k))).filter (fun q => decide (q.k ≠ c.k))
def wstepU (c : Cp) (st : List Cp × Bool) (q : Cp) : List Cp × Bool :=
 let s1 := if st.2 = false ∧ c.k ≤ q.k then (st.1 ++ [c],true) else st
 if q.k ≠ c.k then (s1.1 ++ [q],s1.2) else s1
def wfold (c : Cp) (C : List Cp) : List Cp × Bool := C.foldl (wstepU c) ([],false)
theorem wfold_snoc (c : Cp) (C : List Cp) (q : Cp) : wfold c (C ++ [q]) = wstepU c (wfold c C) q := by simp [wfold]
theorem fold_done (c : Cp) (C out : List Cp) : C.foldl (wstepU c) (out,true) = (out ++ C.filter (fun q => decide (q.k ≠ c.k)),true) := by
 induction C generalizing out with
 | nil => simp
 | cons q t ih =>
  rw [List.foldl_cons]
  by_cases h : q.k = c.k
  ·have e : wstepU c (out,true) q = (out,true) := by simp [wstepU,h]
   rw [e,ih]; simp [h]
  ·have e : wstepU c (out,true) q = (out ++ [q],true) := by simp [wstepU,h]
   rw [e,ih]; simp [h]
theorem fold_not (c : Cp) (C out : List Cp) : C.foldl (wstepU c) (out,false) = if C.any (fun q => decide (c.k ≤ q.k)) then (out ++ insc C c,true) else (out ++ C,false) := by
 induction C generalizing out with
 | nil => simp
 | cons q t ih =>
  rw [List.foldl_cons]
  by_cases h : c.k ≤ q.k
  ·have hn : ¬ q.k < c.k := by omega
   by_cases h2 : q.k = c.k
   ·have e : wstepU c (out,false) q = (out ++ [c],true) := by simp [wstepU,h2]
    rw [e,fold_done]
    simp [insc,h2]
   ·have e : wstepU c (out,false) q = (out ++ [c] ++ [q],true) := by simp [wstepU,h,h2]
    rw [e,fold_done]
    simp [insc,h,h2,hn]
  ·have hn : q.k < c.k := by omega
   have e : wstepU c (out,false) q = (out ++ [q],false) := by simp [wstepU,h]; omega
   rw [e,ih]
   simp only [List.any_cons,decide_eq_false h,Bool.false_or]
   split
   ·simp [insc,hn]
   ·simp
theorem dw_nil {α : Type} {p : α → Bool} {C : List α} (h : ∀ q ∈ C,p q = true) : C.dropWhile p = [] := by
 induction C with
 | nil => rfl
 | cons q t ih => rw [List.dropWhile_cons,h q List.mem_cons_self]; exact ih (fun x hx => h x (List.mem_cons_of_mem _ hx))
theorem wfold_end (c : Cp) (C : List Cp) : (if (wfold c C).2 then (wfold c C).1 else (wfold c C).1 ++ [c]) = insc C c := by
 unfold wfold
 rw [fold_not]
 by_cases h : C.any (fun q => decide (c.k ≤ q.k)) = true
 ·rw [if_pos h]; simp
 ·rw [if_neg h]
  have hall : ∀ q ∈ C,decide (q.k < c.k) = true := by
   intro q hq
   rw [Bool.not_eq_true,List.any_eq_false] at h
   have := h q hq
   simp at this ⊢; omega
  simp only [List.nil_append]
  unfold insc
  have hd : C.dropWhile (fun q => decide (q.k < c.k)) = [] := dw_nil hall
  have ht := List.takeWhile_append_dropWhile (p := fun q : Cp => decide (q.k < c.k)) (l := C)
  rw [hd,List.append_nil] at ht
  rw [hd,ht]
  simp
theorem insc_len (C : List Cp) (c : Cp) : (insc C c).length ≤ C.length + 1 := by
 unfold insc
 rw [List.length_append,List.length_cons]
 have h1 := List.length_filter_le (fun q : Cp => decide (q.k ≠ c.k)) (C.dropWhile (fun q => decide (q.k < c.k)))
 have h2 := congrArg List.length (List.takeWhile_append_dropWhile (p := fun q : Cp => decide (q.k < c.k)) (l := C))
 rw [List.length_append] at h2
 omega
def outk (C : List Cp) (k : Nat) : List Cp := C.filter (fun q => decide (q.k ≠ k))
theorem outk_snoc (C : List Cp) (q : Cp) (k : Nat) : outk (C ++ [q]) k = outk C k ++ (if q.k = k then [] else [q]) := by
 unfold outk
 rw [List.filter_append,List.filter_cons]
 by_cases h : q.k = k <;> simp [h]
end Go.Proofs.YtgifeckbflkkpaaGreatDoor
