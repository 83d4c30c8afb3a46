/-
  What becomes of one entity leaves all others as they are, with their numbers: StoreApart returns true, whatever its arguments, where the table of the components lies as the program's text lays it, and changes nothing that was there.
-/
import Derived.Test.YtlbbljjfejhniaaDoorHbg
import Derived.OpenShut
import Derived.SevenTiedAt
namespace Go.Proofs.YtlbbljjfejhniaaDoor
open Go.ChangeShapes Go.WideShapes Go.ChangeAt Go.RowKit
set_option linter.unusedVariables false
set_option maxRecDepth 100000

def ofI (n : Int) : Nat := (n % 18446744073709551616).toNat
theorem ofI_lt (n : Int) : ofI n < 18446744073709551616 := by unfold ofI; omega
theorem ofI_wrap (n : Int) : IntKind.u64.wrap n = (ofI n : Int) := by
  have : IntKind.u64.wrap n = n % 18446744073709551616 := by simp [IntKind.wrap, IntKind.signed, IntKind.bits]
  rw [this]; unfold ofI; omega
theorem Own.five {w0 w : World} {P Q R S T : Thing} {l : List Thing} (h : Own w0 w (P :: Q :: R :: S :: T :: l)) : Own w0 w (T :: P :: Q :: R :: S :: l) := h.perm (List.perm_middle (l₁ := [P, Q, R, S]) (a := T) (l₂ := l))
theorem Own.toEnd {w0 w : World} {P : Thing} {l : List Thing} (h : Own w0 w (P :: l)) : Own w0 w (l ++ [P]) := h.perm (List.perm_append_singleton P l).symm
theorem list_len2 {S : St} (hS : S.Ok) : S.list.length ≤ 1024 := by
  rw [St.list_length hS, hS.live]
  have h1 := List.count_le_length (a := true) (l := S.used)
  have h2 := hS.ul
  have h3 := hS.le
  have h4 := hS.n2
  omega
theorem lst_len6 {C : List Cp} (h : lst (-1) C = 0) : C.length ≤ 6 := by
  rw [← comps_of h rfl, List.length_map]
  exact Nat.le_trans (List.length_filter_le _ _) (by simp)
theorem nodup_ne {X : List Nat} (h : X.Nodup) {i j a b : Nat} (hi : X[i]? = some a) (hj : X[j]? = some b) (hij : i < j) : a ≠ b := by
  unfold List.Nodup at h
  rw [List.pairwise_iff_getElem] at h
  obtain ⟨p1, p2⟩ := List.getElem?_eq_some_iff.1 hi
  obtain ⟨p3, p4⟩ := List.getElem?_eq_some_iff.1 hj
  rw [← p2, ← p4]
  exact h i j p1 p3 hij
set_option maxHeartbeats 8000000 in
theorem storeApart_fr (w : World) (ht : Tab w) (ao : Option Addr) (len cap : Nat) (Q : List LsE) (hQl : Q.length = len) (hlc : len ≤ cap) (hcm : cap ≤ maxLen) (hM : Lss w ao Q) (hw : ∀ x ∈ Q, x.C.length ≤ x.cap ∧ x.cap ≤ 9223372036854775807 ∧ ∀ q ∈ x.C, q.k < 256) (od : Nat) (hod : od < 256) (oi : Int) (hoi : -9223372036854775808 ≤ oi ∧ oi ≤ 9223372036854775807) (oa : Option Addr) (ol oc : Nat) (OC : List Cp) (hOl : OC.length = ol) (hO6 : ol ≤ 9223372036854775807) (hOs : Cs w oa OC) (hOk : ∀ q ∈ OC, q.k < 256) :
    Calls Tryd.prog 3 #[.slice ao len cap, .agg #[.int .u8 (od : Int), .int .i64 oi, .slice oa ol oc]] w fun e w' => e = .returned (.bool true) ∧ Fr Nobody w w' := by
  unfold maxLen at hcm
  have HT : Hid (Tab w) := ht
  obtain ⟨F, hF⟩ : ∃ F : Nat → Sto, F = fun j => ((Q.take 15).take j).foldl lstep (Sto.new 20 1) := ⟨_, rfl⟩
  have HF0 : Hid (F 0 = Sto.new 20 1) := by show _ = _; rw [hF]; rfl
  have HFS : Hid (∀ (j : Nat) x, j < 15 → Q[j]? = some x → F (j + 1) = ((F j).spawn (x.C.take 20)).2.2) := by
    intro j x hj hx
    rw [hF]
    simp only
    rw [List.take_add_one, List.foldl_append, List.getElem?_take, if_pos hj, hx]
    rfl
  have HFN : Hid (∀ j, 15 ≤ j → F (j + 1) = F j) := by
    intro j hj
    rw [hF]
    simp only
    rw [List.take_of_length_le (l := Q.take 15) (by rw [List.length_take]; omega), List.take_of_length_le (l := Q.take 15) (by rw [List.length_take]; omega)]
  have HFK : Hid (∀ j, (F j).Ok) := by
    intro j
    rw [hF]
    exact lfold_ok _ _ (Sto.new_ok 20 1 (by decide) (by decide) (by decide) (by decide))
  have HQ : Hid (Q.length = len ∧ Lss w ao Q ∧ ∀ x ∈ Q, x.C.length ≤ x.cap ∧ x.cap ≤ 9223372036854775807 ∧ ∀ q ∈ x.C, q.k < 256) := ⟨hQl, hM, hw⟩
  obtain ⟨xx, hxx⟩ : ∃ xx, xx = fst1 OC := ⟨_, rfl⟩
  have hxk : xx.k < 256 := by rw [hxx]; exact fst1_k hOk
  obtain ⟨xk, xa, xb, xc⟩ := xx
  simp only at hxk
  have HFI : Hid (∀ w' l', Own w w' l' → Calls Tryd.prog 10 #[.slice oa ol oc] w' fun e w'' => e = .returned (.agg #[.int .u8 (xk : Int), .int .i32 xa, .int .i32 xb, .int .i32 xc]) ∧ Own w w'' l') := fun w' l' h' => by
    have h1 := first_any w' oa ol oc OC hOl (hOs.quiet h'.fr)
    rw [← hxx] at h1
    exact h1.mono (fun e w'' he => ⟨he.1, h'.quiet he.2⟩)
  have hA0 := (Own.start w).allocC #[.int .u8 (od : Int), .int .i64 oi, .slice oa ol oc] 25
  have HAW : Hid (Calls _ _ _ _ _) := awake11 w _ _ HT.out hA0
  obtain ⟨ho1, ho2⟩ := hoi
  clear ht hM hw hQl hF hxx hOl hOs hOk hA0
  go_enter Tryd.func3, Tryd.ntmps3
  go_wp2_with fail
  refine HAW.out.mono ?_
  rintro e w1 ⟨rfl, hO1⟩
  have HN : Hid (Calls Tryd.prog 5 #[.int .i64 20, .int .i64 1] w1 _) := snew w w1 _ 20 1 hO1 (by decide) (by decide) (by decide) (by decide)
  clear hO1 HAW
  go_wp2_with fail
  refine HN.out.mono ?_
  rintro e w2 ⟨b, rfl, hO2⟩
  have H2 : Hid (Own w w2 [Store b (F 0) 0, Cells w.heap.size #[.int .u8 (od : Int), .int .i64 oi, .slice oa ol oc] 25]) := by show Own _ _ _; rw [HF0.out]; exact hO2
  clear hO2 HN HF0
  generalize w.heap.size = BO at *
  go_wp2
  go_loopw [29] (fun v29 wr => ∃ j : Nat, j ≤ len ∧ v29 = .int .i64 j ∧ ∃ Kc, Kc ≤ 15 ∧ Kc ≤ j ∧ Own w wr [Store b (F j) Kc, Cells BO #[.int .u8 (od : Int), .int .i64 oi, .slice oa ol oc] 25]) (fun v29 _ => len - (intOf v29).toNat)
  case atStart => exact ⟨0, Nat.zero_le _, rfl, 0, by decide, Nat.le_refl _, H2.out⟩
  case round =>
    obtain ⟨j, hj, rfl, Kc, hK15, hKj, hO⟩ := hrel
    have HO : Hid (Own w wr _) := hO
    clear H2
    by_cases hlt : j < len
    · have hlt' : (j : Int) < (len : Int) := by omega
      obtain ⟨x, hx⟩ : ∃ x, Q[j]? = some x := ⟨_, List.getElem?_eq_getElem (by rw [HQ.out.1]; exact hlt)⟩
      obtain ⟨g, o, hao, c0⟩ := (HQ.out.2.1.quiet hO.fr).at j x hx
      subst hao
      have hxm := List.mem_of_getElem? hx
      obtain ⟨hx1, hx2, hx3⟩ := HQ.out.2.2 x hxm
      by_cases h15 : j < 15
      · have h15' : (j : Int) < 15 := by omega
        obtain ⟨n, hn⟩ : ∃ n, n = (x.C.take 20).length := ⟨_, rfl⟩
        have hn' : n = min 20 x.C.length := by rw [hn, List.length_take]
        have hmin : min (x.C.length : Int) 20 = (n : Int) := by omega
        have hn1 : n ≤ 20 := by omega
        have hn2 : n ≤ x.C.length := by omega
        have HST : Hid (F (j + 1) = ((F j).spawn (x.C.take 20)).2.2) := HFS.out j x h15 hx
        have HTW : Hid (Calls Tryd.prog 7 #[.slice x.ao n x.cap] wr _) := twin_any w wr _ hO x.ao n x.cap (x.C.take 20) hn.symm (((HQ.out.2.1.2 x hxm).quiet hO.fr).take 20) (by omega)
        have HSP : Hid (∀ w' a5 c5, Own w w' [Row 46 4 (.slice a5 n c5) n (ccat (x.C.take 20)), Store b (F j) Kc, Cells BO #[.int .u8 (od : Int), .int .i64 oi, .slice oa ol oc] 25] → Calls Tryd.prog 6 #[.pointer (some ⟨b, 0, none⟩), .slice a5 n c5] w' fun e w'' => ∃ v, e = .returned v ∧ Own w w'' [Store b (F (j + 1)) (Kc + 1), Cells BO #[.int .u8 (od : Int), .int .i64 oi, .slice oa ol oc] 25]) := by
          intro w' a5 c5 h'
          refine (spawnC w w' _ b (F j) Kc HT.out h'.two (HFK.out j) a5 n c5 (x.C.take 20) hn.symm (fun w'' h'' => Own.rcs3 h'' hn.symm) (fun q hq => hx3 q (List.mem_of_mem_take hq)) (by omega) (by omega)).mono ?_
          rintro e w'' ⟨rfl, h2⟩
          rw [HST.out]
          exact ⟨_, rfl, h2.two.tail⟩
        clear hO hx hxm hx3 hn hn'
        generalize x.C.length = xl at *
        generalize x.ao = xao at *
        generalize x.cap = xcap at *
        go_wp2_with fail
        refine HTW.out.mono ?_
        rintro e w3 ⟨a5, c5, rfl, hO3⟩
        have HS3 : Hid (Calls _ _ _ _ _) := HSP.out _ _ _ hO3
        clear hO3 HTW HSP HST
        go_wp2_with fail
        refine HS3.out.mono ?_
        rintro e w4 ⟨v4, rfl, hO4⟩
        have H4 : Hid (Own w w4 _) := hO4
        clear hO4 HS3
        go_wp2
        go_roundw
        case rel => exact ⟨j + 1, by omega, by go_num, Kc + 1, by omega, by omega, H4.out⟩
        case measure => simp [intOf]; omega
      · have h15' : ¬ (j : Int) < 15 := by omega
        have HST : Hid (F (j + 1) = F j) := HFN.out j (by omega)
        clear hO hx hxm hx3
        go_wp2
        go_roundw
        case rel => exact ⟨j + 1, by omega, by go_num, Kc, hK15, by omega, by rw [HST.out]; exact HO.out⟩
        case measure => simp [intOf]; omega
    · have hlt' : ¬ (j : Int) < (len : Int) := by omega
      have hok := HFK.out j
      have hnd := St.list_nodup hok.s
      have hLV : ∀ id ∈ (F j).S.list, (F j).S.isLive id = true ∧ id < 4294967296 := fun id hid => St.list_iv2 hok.s hid
      have hlen := list_len2 hok.s
      clear HFS HFN HFK HQ
      generalize F j = σ at *
      have HLS : Hid (Calls Tryd.prog 8 #[.pointer (some ⟨b, 0, none⟩)] wr fun e w' => ∃ la lc, e = .returned (.slice la σ.S.list.length lc) ∧ Own w w' (Row 32 1 (.slice la σ.S.list.length lc) σ.S.list.length (irow .u32 σ.S.list) :: [Store b σ Kc, Cells BO #[.int .u8 (od : Int), .int .i64 oi, .slice oa ol oc] 25])) := by
        refine (slist w wr _ b σ Kc hO hok.s).mono ?_
        rintro e w' ⟨v, rfl, h2⟩
        obtain ⟨la, lc, rfl⟩ := row_any h2.row
        exact ⟨la, lc, rfl, h2⟩
      have HOK : Hid (σ.Ok) := hok
      have HND : Hid (σ.S.list.Nodup) := hnd
      have HLV : Hid (∀ id ∈ σ.S.list, σ.S.isLive id = true ∧ id < 4294967296) := hLV
      have HEN : Hid (∀ w' l' (j id : Nat), σ.S.list[j]? = some id → Own w w' (Store b σ Kc :: l') → Calls Tryd.prog 9 #[.pointer (some ⟨b, 0, none⟩), .int .u32 (id : Int)] w' fun e w'' => ∃ ao cap, e = .returned (.tuple #[.agg #[.int .u32 (id : Int), .slice ao (σ.cps id).length cap], .int .i64 0]) ∧ Own w w'' (Row 46 4 (.slice ao (σ.cps id).length cap) (σ.cps id).length (ccat (σ.cps id)) :: Store b σ Kc :: l')) := by
        intro w' l' j id hj h'
        obtain ⟨hl, h32⟩ := hLV id (List.mem_of_getElem? hj)
        obtain ⟨r, C, hr, he, _⟩ := hok.ent hl
        rw [Sto.cps_of hr he]
        exact sent w w' l' b σ Kc h' hok id h32 hl r C he (by omega)
      clear hO HO hok hnd hLV
      obtain ⟨X, hX⟩ : ∃ X, X = σ.S.list := ⟨_, rfl⟩
      simp only [← hX] at HLS HND HLV HEN hlen
      generalize hxn : X.length = n at *
      have HN : Hid (X.length = n) := hxn
      clear hxn hX
      go_wp2_with fail
      refine HLS.out.mono ?_
      rintro e w3 ⟨la, lc, rfl, hO3⟩
      by_cases hn0 : n = 0
      · subst hn0
        have H3 : Hid (Own w w3 _) := hO3
        clear hO3 HLS
        go_wp2
        go_ret
        exact ⟨rfl, H3.out.fr⟩
      · have hpos : 0 < n := by omega
        have hl0 : ((n : Int) == 0) = false := by rw [beq_eq_false_iff_ne]; omega
        obtain ⟨u, hu⟩ : ∃ u, u = ofI oi := ⟨_, rfl⟩
        have huw : IntKind.u64.wrap oi = (u : Int) := by rw [hu]; exact ofI_wrap oi
        have hul : u < 18446744073709551616 := by rw [hu]; exact ofI_lt oi
        obtain ⟨jj, hjj⟩ : ∃ jj : Nat, jj = u % n := ⟨_, rfl⟩
        have hjl : jj < n := by rw [hjj]; exact Nat.mod_lt _ hpos
        have ej : (u : Int) % (n : Int) = (jj : Int) := by rw [hjj]; simp
        obtain ⟨id, hid⟩ : ∃ id, X[jj]? = some id := ⟨_, List.getElem?_eq_getElem (by rw [HN.out]; exact hjl)⟩
        obtain ⟨g5, cp5, he5, _⟩ := row_shape hO3.row (by omega)
        have hha := (Value.slice.inj he5).1
        subst hha
        have cy : w3.cell? ⟨g5, jj, none⟩ = some (.int .u32 (id : Int)) := by rw [hO3.row.cellAt _ (by omega), getElem?_irow, hid]; rfl
        have hjl' : (jj : Int) < (n : Int) := by omega
        have b1 := hO3.three.cell 1
        simp at b1
        obtain ⟨hidl, hid32⟩ := HLV.out id (List.mem_of_getElem? hid)
        have HID : Hid (σ.S.isLive id = true) := hidl
        have H3 : Hid (Own w (w3.alloc (.map #[] 0)) (EntMap w3.heap.size 0 (fun _ => none) :: Row 32 1 (.slice (some ⟨g5, 0, none⟩) n lc) n (irow .u32 X) :: Store b σ Kc :: Cells BO #[.int .u8 (od : Int), .int .i64 oi, .slice oa ol oc] 25 :: (([] : List WasE).map WasE.row))) := hO3.emNew
        clear hO3 HLS he5 hu hjj hid hidl
        have hmm := @run_makeMap Tryd.prog
        go_wp2
        clear hmm ej huw hl0 hjl' hul
        generalize w3.heap.size = mb at *
        go_loopw [64] (fun v64 wr => ∃ j : Nat, j ≤ n ∧ v64 = .int .i64 j ∧ ∃ (G : List WasE) (p : Nat → Option Value), G.length = j ∧ (∀ (i : Nat) y, G[i]? = some y → X[i]? = some y.id ∧ y.C = σ.cps y.id) ∧ (∀ y ∈ G, p y.id = some y.v) ∧ Own w wr (EntMap mb j p :: Row 32 1 (.slice (some ⟨g5, 0, none⟩) n lc) n (irow .u32 X) :: Store b σ Kc :: Cells BO #[.int .u8 (od : Int), .int .i64 oi, .slice oa ol oc] 25 :: (G.map WasE.row))) (fun v64 _ => n - (intOf v64).toNat)
        case atStart => exact ⟨0, Nat.zero_le _, rfl, [], fun _ => none, rfl, fun i y h => by simp at h, fun y h => by simp at h, H3.out⟩
        case round =>
          obtain ⟨j, hj, rfl, G, p, hG, hGX, hGp, hO⟩ := hrel
          have HO : Hid (Own w wr _) := hO
          have HG : Hid (G.length = j ∧ (∀ (i : Nat) y, G[i]? = some y → X[i]? = some y.id ∧ y.C = σ.cps y.id) ∧ (∀ y ∈ G, p y.id = some y.v)) := ⟨hG, hGX, hGp⟩
          clear H3 cy b1 hG hGX hGp
          by_cases hjn : j < n
          · have hjn' : (j : Int) < (n : Int) := by omega
            obtain ⟨x, hx⟩ : ∃ x, X[j]? = some x := ⟨_, List.getElem?_eq_getElem (by rw [HN.out]; exact hjn)⟩
            have c0 : wr.cell? ⟨g5, j, none⟩ = some (.int .u32 (x : Int)) := by rw [hO.two.row.cellAt _ (by omega), getElem?_irow, hx]; rfl
            obtain ⟨_, hx32⟩ := HLV.out x (List.mem_of_getElem? hx)
            have HE : Hid (Calls _ _ _ _ _) := HEN.out _ _ j x hx hO.three
            have HXJ : Hid (X[j]? = some x) := hx
            clear hO hx
            obtain ⟨C, hC⟩ : ∃ C, C = σ.cps x := ⟨_, rfl⟩
            have HCX : Hid (C = σ.cps x) := hC
            rw [← hC] at HE
            clear hC
            generalize hcl : C.length = cl at *
            have HCL : Hid (C.length = cl) := hcl
            clear hcl
            go_wp2_with fail
            refine HE.out.mono ?_
            rintro e w4 ⟨ca, cc, rfl, hO4⟩
            obtain ⟨w5, hrun, hO5⟩ := hO4.three.emPut x (.agg #[.int .u32 (x : Int), .slice ca cl cc]) hx32 (by unfold maxLen; omega)
            have HX : Hid (∃ (G' : List WasE) (p' : Nat → Option Value), G'.length = j + 1 ∧ (∀ (i : Nat) y, G'[i]? = some y → X[i]? = some y.id ∧ y.C = σ.cps y.id) ∧ (∀ y ∈ G', p' y.id = some y.v) ∧ Own w w5 (EntMap mb (j + 1) p' :: Row 32 1 (.slice (some ⟨g5, 0, none⟩) n lc) n (irow .u32 X) :: Store b σ Kc :: Cells BO #[.int .u8 (od : Int), .int .i64 oi, .slice oa ol oc] 25 :: (G'.map WasE.row))) := by
              obtain ⟨h1, h2, h3⟩ := HG.out
              refine ⟨G ++ [⟨x, C, ca, cc⟩], fun z => if z = x then some (.agg #[.int .u32 (x : Int), .slice ca cl cc]) else p z, by rw [List.length_append, h1]; rfl, ?_, ?_, ?_⟩
              · intro i y hy
                by_cases hij : i < j
                · rw [List.getElem?_append_left (by omega)] at hy
                  exact h2 i y hy
                · rw [List.getElem?_append_right (by omega), h1] at hy
                  have hi0 : i - j = 0 := by
                    have := (List.getElem?_eq_some_iff.1 hy).1
                    simp at this
                    omega
                  rw [hi0] at hy
                  simp at hy
                  have hij2 : i = j := by omega
                  subst hij2
                  rw [← hy]
                  exact ⟨HXJ.out, HCX.out⟩
              · intro y hy
                rcases List.mem_append.1 hy with hy | hy
                · obtain ⟨i, hi⟩ := List.mem_iff_getElem?.1 hy
                  have hil := (List.getElem?_eq_some_iff.1 hi).1
                  have := nodup_ne HND.out (h2 i y hi).1 HXJ.out (by omega)
                  simp only
                  rw [if_neg this]
                  exact h3 y hy
                · rw [List.mem_singleton.1 hy]
                  simp only [if_true]
                  unfold WasE.v
                  simp only
                  rw [HCL.out]
              · have h6 := hO5.two.toEnd
                rw [List.map_append]
                have h7 : Own w w5 (EntMap mb (j + 1) _ :: Store b σ Kc :: Row 32 1 (.slice (some ⟨g5, 0, none⟩) n lc) n (irow .u32 X) :: Cells BO #[.int .u8 (od : Int), .int .i64 oi, .slice oa ol oc] 25 :: (G.map WasE.row ++ [Row 46 4 (.slice ca cl cc) cl (ccat C)])) := h6
                have h8 : ([⟨x, C, ca, cc⟩] : List WasE).map WasE.row = [Row 46 4 (.slice ca cl cc) cl (ccat C)] := by
                  simp only [List.map_cons, List.map_nil, WasE.row, HCL.out]
                rw [h8]
                exact h7.in23
            clear hO4 hO5 HE
            go_wp2
            go_roundw
            case rel =>
              obtain ⟨G', p', q1, q2, q3, q4⟩ := HX.out
              exact ⟨j + 1, by omega, by go_num, G', p', q1, q2, q3, q4⟩
            case measure => simp [intOf]; omega
          · have hjn' : ¬ (j : Int) < (n : Int) := by omega
            have hje : j = n := by omega
            subst hje
            have HWY : Hid (∀ (i x : Nat), X[i]? = some x → ∃ y ∈ G, y.id = x ∧ y.C = σ.cps x ∧ p x = some y.v) := by
              intro i x hx
              obtain ⟨h1, h2, h3⟩ := HG.out
              have hil := (List.getElem?_eq_some_iff.1 hx).1
              obtain ⟨y, hy⟩ : ∃ y, G[i]? = some y := ⟨_, List.getElem?_eq_getElem (by rw [h1, ← HN.out]; exact hil)⟩
              obtain ⟨q1, q2⟩ := h2 i y hy
              rw [hx] at q1
              have e := (Option.some.inj q1)
              have hym := List.mem_of_getElem? hy
              exact ⟨y, hym, e.symm, by rw [e]; exact q2, by rw [e]; exact h3 y hym⟩
            have b2 := hO.four.cell 2
            simp at b2
            have HF1 : Hid (Calls _ _ _ _ _) := HFI.out _ _ hO
            clear hO HO HEN HFI HG
            go_wp2_with fail
            refine HF1.out.mono ?_
            rintro e w4 ⟨rfl, hO4⟩
            have hO5 := hO4.allocC #[.int .u8 (xk : Int), .int .i32 xa, .int .i32 xb, .int .i32 xc] 46
            have b0 := hO5.five.cell 0
            simp at b0
            have hO6 := hO5.four
            have h4 : (((od : Int) % 4 = 0) ∧ Hid (Calls Tryd.prog 11 #[.pointer (some ⟨b, 0, none⟩), .int .u32 (id : Int)] (w4.alloc (.cells #[.int .u8 (xk : Int), .int .i32 xa, .int .i32 xb, .int .i32 xc] 46)) fun e w'' => ∃ v, e = .returned v ∧ ∃ σ', (∀ x, σ.S.isLive x = true → x ≠ id → σ'.S.isLive x = true ∧ σ'.cps x = σ.cps x) ∧ σ'.Ok ∧ Own w w'' (Store b σ' (Kc + 2) :: Cells w4.heap.size #[.int .u8 (xk : Int), .int .i32 xa, .int .i32 xb, .int .i32 xc] 46 :: EntMap mb j p :: Row 32 1 (.slice (some ⟨g5, 0, none⟩) j lc) j (irow .u32 X) :: Cells BO #[.int .u8 (od : Int), .int .i64 oi, .slice oa ol oc] 25 :: (G.map WasE.row)))) ∨ (((od : Int) % 4 = 1) ∧ Hid (Calls Tryd.prog 12 #[.pointer (some ⟨b, 0, none⟩), .int .u32 (id : Int), .agg #[.int .u8 (xk : Int), .int .i32 xa, .int .i32 xb, .int .i32 xc]] (w4.alloc (.cells #[.int .u8 (xk : Int), .int .i32 xa, .int .i32 xb, .int .i32 xc] 46)) fun e w'' => ∃ v, e = .returned v ∧ ∃ σ', (∀ x, σ.S.isLive x = true → x ≠ id → σ'.S.isLive x = true ∧ σ'.cps x = σ.cps x) ∧ σ'.Ok ∧ Own w w'' (Store b σ' (Kc + 2) :: Cells w4.heap.size #[.int .u8 (xk : Int), .int .i32 xa, .int .i32 xb, .int .i32 xc] 46 :: EntMap mb j p :: Row 32 1 (.slice (some ⟨g5, 0, none⟩) j lc) j (irow .u32 X) :: Cells BO #[.int .u8 (od : Int), .int .i64 oi, .slice oa ol oc] 25 :: (G.map WasE.row)))) ∨ (((od : Int) % 4 = 2) ∧ Hid (Calls Tryd.prog 13 #[.pointer (some ⟨b, 0, none⟩), .int .u32 (id : Int), .agg #[.int .u8 (xk : Int), .int .i32 xa, .int .i32 xb, .int .i32 xc]] (w4.alloc (.cells #[.int .u8 (xk : Int), .int .i32 xa, .int .i32 xb, .int .i32 xc] 46)) fun e w'' => ∃ v, e = .returned v ∧ ∃ σ', (∀ x, σ.S.isLive x = true → x ≠ id → σ'.S.isLive x = true ∧ σ'.cps x = σ.cps x) ∧ σ'.Ok ∧ Own w w'' (Store b σ' (Kc + 2) :: Cells w4.heap.size #[.int .u8 (xk : Int), .int .i32 xa, .int .i32 xb, .int .i32 xc] 46 :: EntMap mb j p :: Row 32 1 (.slice (some ⟨g5, 0, none⟩) j lc) j (irow .u32 X) :: Cells BO #[.int .u8 (od : Int), .int .i64 oi, .slice oa ol oc] 25 :: (G.map WasE.row)))) ∨ (((od : Int) % 4 = 3) ∧ Hid (Calls Tryd.prog 14 #[.pointer (some ⟨b, 0, none⟩), .int .u32 (id : Int), .int .u8 (xk : Int)] (w4.alloc (.cells #[.int .u8 (xk : Int), .int .i32 xa, .int .i32 xb, .int .i32 xc] 46)) fun e w'' => ∃ v, e = .returned v ∧ ∃ σ', (∀ x, σ.S.isLive x = true → x ≠ id → σ'.S.isLive x = true ∧ σ'.cps x = σ.cps x) ∧ σ'.Ok ∧ Own w w'' (Store b σ' (Kc + 2) :: Cells w4.heap.size #[.int .u8 (xk : Int), .int .i32 xa, .int .i32 xb, .int .i32 xc] 46 :: EntMap mb j p :: Row 32 1 (.slice (some ⟨g5, 0, none⟩) j lc) j (irow .u32 X) :: Cells BO #[.int .u8 (od : Int), .int .i64 oi, .slice oa ol oc] 25 :: (G.map WasE.row)))) := by
              have hoth : ∀ d, (∀ x, σ.S.isLive x = true → x ≠ id → (op4 d σ id ⟨xk, xa, xb, xc⟩).S.isLive x = true ∧ (op4 d σ id ⟨xk, xa, xb, xc⟩).cps x = σ.cps x) := fun d x hx hne => (op4_oth HOK.out d ⟨xk, xa, xb, xc⟩ HID.out hx hne).2
              have hcase : od % 4 = 0 ∨ od % 4 = 1 ∨ od % 4 = 2 ∨ od % 4 = 3 := by omega
              rcases hcase with c | c | c | c
              · refine .inl ⟨by omega, ?_⟩
                refine (despawnC w _ _ b σ Kc hO6 HOK.out id hid32 (by omega)).mono ?_
                rintro e w'' ⟨rfl, h2⟩
                exact ⟨_, rfl, _, hoth 0, op4_ok HOK.out 0 id ⟨xk, xa, xb, xc⟩, Own.stoK (show Kc + 1 ≤ Kc + 2 by omega) h2⟩
              · refine .inr (.inl ⟨by omega, ?_⟩)
                refine (setC0 w _ _ b σ Kc HT.out hO6 HOK.out id hid32 ⟨xk, xa, xb, xc⟩ hxk (by omega)).mono ?_
                rintro e w'' ⟨rfl, h2⟩
                exact ⟨_, rfl, _, hoth 1, op4_ok HOK.out 1 id ⟨xk, xa, xb, xc⟩, Own.stoK (show Kc ≤ Kc + 2 by omega) h2⟩
              · refine .inr (.inr (.inl ⟨by omega, ?_⟩))
                refine (addC w _ _ b σ Kc HT.out hO6 HOK.out id hid32 ⟨xk, xa, xb, xc⟩ hxk (by omega)).mono ?_
                rintro e w'' ⟨rfl, h2⟩
                exact ⟨_, rfl, _, hoth 2, op4_ok HOK.out 2 id ⟨xk, xa, xb, xc⟩, h2⟩
              · refine .inr (.inr (.inr ⟨by omega, ?_⟩))
                refine (removeC w _ _ b σ Kc HT.out hO6 HOK.out id hid32 xk hxk (by omega)).mono ?_
                rintro e w'' ⟨rfl, h2⟩
                exact ⟨_, rfl, _, hoth 3, op4_ok HOK.out 3 id ⟨xk, xa, xb, xc⟩, h2⟩
            clear hO4 hO5 hO6 HF1 b2
            rcases h4 with ⟨hr, HC⟩ | ⟨hr, HC⟩ | ⟨hr, HC⟩ | ⟨hr, HC⟩
            all_goals
              go_wp2_with fail
              refine HC.out.mono ?_
              rintro e w6 ⟨v6, rfl, σ', hoth, hok', hO6⟩
              have H6 : Hid (Own w w6 (EntMap mb j p :: Row 32 1 (.slice (some ⟨g5, 0, none⟩) j lc) j (irow .u32 X) :: Store b σ' (Kc + 2) :: Cells BO #[.int .u8 (od : Int), .int .i64 oi, .slice oa ol oc] 25 :: (G.map WasE.row))) := hO6.two.tail.back3
              have HOT : Hid (∀ x, σ.S.isLive x = true → x ≠ id → σ'.S.isLive x = true ∧ σ'.cps x = σ.cps x) := hoth
              have HOK' : Hid (σ'.Ok) := hok'
              clear hO6 HC hoth hok' b0
              go_wp2
              go_loopw [107] (fun v107 wr => ∃ i : Nat, i ≤ j ∧ v107 = .int .i64 i ∧ Own w wr (EntMap mb j p :: Row 32 1 (.slice (some ⟨g5, 0, none⟩) j lc) j (irow .u32 X) :: Store b σ' (Kc + 2) :: Cells BO #[.int .u8 (od : Int), .int .i64 oi, .slice oa ol oc] 25 :: (G.map WasE.row))) (fun v107 _ => j - (intOf v107).toNat)
              case atStart => exact ⟨0, Nat.zero_le _, rfl, H6.out⟩
              case round =>
                obtain ⟨i, hi, rfl, hO⟩ := hrel
                have HO : Hid (Own w wr _) := hO
                clear H6
                by_cases hij : i < j
                · have hij' : (i : Int) < (j : Int) := by omega
                  obtain ⟨x, hx⟩ : ∃ x, X[i]? = some x := ⟨_, List.getElem?_eq_getElem (by rw [HN.out]; exact hij)⟩
                  have c0 : wr.cell? ⟨g5, i, none⟩ = some (.int .u32 (x : Int)) := by rw [hO.two.row.cellAt _ (by omega), getElem?_irow, hx]; rfl
                  obtain ⟨hxl, hx32⟩ := HLV.out x (List.mem_of_getElem? hx)
                  by_cases hxi : x = id
                  · subst hxi
                    have hne : ((x : Int) != (x : Int)) = false := by simp
                    cases hl' : σ'.S.isLive x with
                    | true =>
                      obtain ⟨r, C, hr', he', _⟩ := HOK'.out.ent hl'
                      have HE : Hid (Calls _ _ _ _ _) := sent w wr _ b σ' (Kc + 2) hO.three HOK'.out x hx32 hl' r C he' (by omega)
                      clear hO hx hr' he' hxl hl'
                      generalize hcl : C.length = cl at *
                      clear hcl
                      go_wp2_with fail
                      refine HE.out.mono ?_
                      rintro e w7 ⟨ca, cc, rfl, hO7⟩
                      have H7 : Hid (Own w _ _) := ((hO7.tail).allocC #[.int .u32 (x : Int), .slice ca cl cc] 41).tail.back3
                      clear hO7 HE
                      go_wp2
                      go_roundw
                      case rel => exact ⟨i + 1, by omega, by go_num, H7.out⟩
                      case measure => simp [intOf]; omega
                    | false =>
                      have HE : Hid (Calls _ _ _ _ _) := sentNo w wr _ b σ' (Kc + 2) hO.three HOK'.out x hx32 hl'
                      clear hO hx hxl hl'
                      go_wp2_with fail
                      refine HE.out.mono ?_
                      rintro e w7 ⟨rfl, hO7⟩
                      have H7 : Hid (Own w _ _) := (hO7.allocC #[.int .u32 0, .slice none 0 0] 41).tail.back3
                      clear hO7 HE
                      go_wp2
                      go_roundw
                      case rel => exact ⟨i + 1, by omega, by go_num, H7.out⟩
                      case measure => simp [intOf]; omega
                  · have hne : ((x : Int) != (id : Int)) = true := by
                      rw [bne_iff_ne]; omega
                    obtain ⟨hl', hc'⟩ := HOT.out x hxl hxi
                    obtain ⟨r, C, hr', he', hlC, _⟩ := HOK'.out.ent hl'
                    have hcC : C = σ.cps x := by rw [← hc', Sto.cps_of hr' he']
                    obtain ⟨y, hyG, hyi, hyC, hyp⟩ := HWY.out i x hx
                    have hC6 := lst_len6 hlC
                    have HE : Hid (Calls _ _ _ _ _) := sent w wr _ b σ' (Kc + 2) hO.three HOK'.out x hx32 hl' r C he' (by omega)
                    have hyCC : y.C = C := by rw [hyC, hcC]
                    have hyv : y.v = .agg #[.int .u32 (x : Int), .slice y.ao C.length y.cap] := by unfold WasE.v; rw [hyi, hyCC]
                    rw [hyv] at hyp
                    have HYS : Hid (∀ w' l', Own w w' (G.map WasE.row ++ l') → Cs w' y.ao C) := fun w' l' h' => by have := was_cs h' hyG; rw [hyCC] at this; exact this
                    have HYP : Hid (p x = some (.agg #[.int .u32 (x : Int), .slice y.ao C.length y.cap])) := hyp
                    clear hO hx hr' he' hxl hl' hc' hlC hcC hyC hyCC hyv hyp
                    generalize y.ao = ya at *
                    generalize y.cap = yc at *
                    generalize hcl : C.length = cl at *
                    have HCL : Hid (C.length = cl) := hcl
                    clear hcl
                    go_wp2_with fail
                    refine HE.out.mono ?_
                    rintro e w7 ⟨ca, cc, rfl, hO7⟩
                    have hO8 := hO7.allocC #[.int .u32 (x : Int), .slice ca cl cc] 41
                    have x0 := hO8.cell 0
                    have x1 := hO8.cell 1
                    simp at x0 x1
                    have hlk := Own.emLook hO8.four x hx32 HYP.out
                    have hys := HYS.out _ [] (by rw [List.append_nil]; exact hO8.tail.tail.tail.tail.tail.tail)
                    have HSE : Hid (Calls _ _ _ _ _) := sameEnt_any _ x ca ya cl cc yc C (Own.rcs3 hO8.two HCL.out) hys HCL.out (by omega)
                    have H8 : Hid (Own w _ _) := hO8
                    clear hO7 hO8 HE hys
                    go_wp2_with fail
                    refine HSE.out.mono ?_
                    rintro e w9 ⟨rfl, hf9⟩
                    have H9 : Hid (Own w w9 _) := (H8.out.quiet hf9).tail.tail.back3
                    clear hf9 HSE H8
                    go_wp2
                    go_roundw
                    case rel => exact ⟨i + 1, by omega, by go_num, H9.out⟩
                    case measure => simp [intOf]; omega
                · have hij' : ¬ (i : Int) < (j : Int) := by omega
                  clear hO
                  go_wp2
                  go_ret
                  exact ⟨rfl, HO.out.fr⟩
theorem storeApart_walk (w : World) (ht : Tab w) (a0 : Option Addr) (len0 cap0 : Nat) (z0 : List LsE) (w0 : IsLss w a0 len0 cap0 z0) (o : OpE) (ho : o.ok w) :
    Calls Tryd.prog 3 #[.slice a0 len0 cap0, o.ag] w fun e w' => e = .returned (.bool true) ∧ Below w.heap.size w w' := by
  obtain ⟨h1, h2⟩ := w0.lss
  obtain ⟨hd, hw, hc⟩ := ho
  refine (storeApart_fr w ht a0 len0 cap0 z0 w0.1 w0.2.1 w0.2.2.1 h1 h2 o.d hd o.who hw o.ao o.C.length o.cap o.C rfl ?_ hc.cs.1 hc.cs.2).mono ?_
  · have := hc.2.1
    have := hc.2.2.1
    unfold maxLen at this
    omega
  · rintro e w' ⟨rfl, hf⟩
    exact ⟨rfl, hf.below (Nat.le_refl _) (fun _ _ h => h)⟩
theorem laidOut : laidOutB Tryd.prog = true := by kernel_rfl

set_option maxRecDepth 100000 in
theorem storeApart_lifted (os : Os) (started : os.Started) (H : Type) (enc : TypeId × Value → H) :
    ReturnsInHanded {} Tryd.checked os 3 .any (fun w args => (Rows.storeApartSpec.pre enc Tryd.prog Tryd.f3 [] false w args ∧ laidMetH Tryd.prog laid1 w) ∧ sizedMet enc Tryd.prog Tryd.f3 (OpenSpec.ofChange Rows.storeApartSpec) false w args) (Rows.storeApartSpec.post enc Tryd.prog Tryd.f3 false true false false) := by
  refine returnsInHanded_of_change_and (C := Tryd.checked) (X := fun w _ => laidMetH Tryd.prog laid1 w) (fun _ _ _ hh h => h.of_heap hh) own started (by kernel_rfl) Tryd.func3
    (ChangeSpec.witness_shaped (enc := enc) (C := Tryd.checked) (os := os) (X := fun w _ => laidMetH Tryd.prog laid1 w) false (World.doorLaid Tryd.prog 400 os) #[.slice none 0 0, .agg #[.int .u8 0, .int .i64 0, .slice none 0 0]] 8 rfl (World.shaped_of_RefB (by kernel_rfl) (by kernel_rfl)) (by kernel_rfl) (by kernel_rfl) (by kernel_rfl) (door_met os _)) ?_
  intro W base args ds gs before hval0 hW _ _ hL _
  have hval : ∀ (j : Nat) t v, Tryd.f3.params[j]? = some t → args[j]? = some v → Value.okWide Tryd.prog W .any base t v := hval0
  have hW' := hW
  obtain ⟨p, q, hA0, hV, rfl, hfz, hnd⟩ := hW
  have hA : DataW.TrodAll enc Tryd.prog W 0 (fun _ => true) true Tryd.f3.params.toList args.toList ds p := hA0
  rw [Tryd.params3] at hA hval
  obtain ⟨v0, vs0, d0, ds0, p0, q0, hargs, rfl, rfl, h0, r0⟩ := trodAll_cons hA
  obtain ⟨v1, vs1, d1, ds1, p1, q1, rfl, rfl, rfl, h1, r1⟩ := trodAll_cons r0
  obtain ⟨rfl, rfl, rfl⟩ := trodAll_nil r1
  obtain rfl : args = #[v0, v1] := by cases args; simp_all
  obtain ⟨rfl, rfl⟩ := trodVars_none hV
  obtain ⟨a0, len0, cap0, rfl⟩ := okWide_slice Tryd.underlying22 (hval 0 22 v0 rfl rfl)
  have k0 := h0
  have lt0 : ∀ x ∈ p0, x.block < W.heap.size := by obtain ⟨m, hm⟩ := k0; exact DataW.trod_lt m _ _ _ hm
  obtain ⟨z0, w0⟩ := open_ops (hval 0 22 _ rfl rfl) h0
  have k1 := h1
  have lt1 : ∀ x ∈ p1, x.block < W.heap.size := by obtain ⟨m, hm⟩ := k1; exact DataW.trod_lt m _ _ _ hm
  obtain ⟨z1, rfl, w1⟩ := open_op1 (hval 1 25 v1 rfl rfl) h1
  clear hA0 hval0
  refine (storeApart_walk W (of_laid hL) a0 len0 cap0 z0 w0 z1 w1).mono fun e W' ⟨he, bel⟩ => ?_
  subst he
  exact ⟨_, rfl, _, _, _, [], _, [], hW', trodAll_mk1 (shut_bool Tryd.underlying4 _), (trodAll_cons_mk (Below.trod laidOut (by kernel_rfl) (of_decide_eq_true (by kernel_rfl)) k0 bel lt0) (trodAll_cons_mk (Below.trod laidOut (by kernel_rfl) (of_decide_eq_true (by kernel_rfl)) k1 bel lt1) trodAll_mk0)), rfl, bel.frame _, fun h => by cases h⟩

theorem storeApart_row : Rows.StoreApartSaid :=
  OpenClaim.holds_of_wide 3 Tryd.f3 rfl rfl rfl rfl rfl rfl rfl ⟨rfl, rfl, rfl, rfl, rfl⟩ rfl rfl rfl rfl rfl (by kernel_rfl) Tryd.func3 (by kernel_rfl)
    (of_decide_eq_true (by kernel_rfl)) (by unfold Func.isWrapper; first | (rw [if_pos (by decide +kernel)]; kernel_rfl) | (rw [if_neg (by decide +kernel)]; exact ⟨rfl, rfl⟩))
    (fun os started H enc _ => storeApart_lifted os started H enc)

theorem storeApart_holds : Rows.StoreApartCardSaid :=
  Claim7.holds_tied_plain_at .later [] [.data] true (true, "d75ba14939b7ccfc9b41c5e911e1d342daab93c6dc9ac301265179ca87fad328") false
    storeApart_row (fun _ h => by cases h) (by kernel_rfl) (fun _ h => by cases h) storeApart_row_tie rfl ⟨rfl, rfl⟩ (by kernel_rfl) rfl
    (fun f fn hf hfn => by
      obtain rfl : f = 3 := Option.some.inj ((show Tryd.prog.funcNamed "pinnace/pinnacelaw11.StoreApart" = some 3 by kernel_rfl).symm.trans hf) |>.symm
      obtain rfl : fn = Tryd.f3 := (Option.some.inj (Tryd.func3.symm.trans hfn)).symm
      exact ⟨by kernel_rfl, fun j t ht => by
        rw [Tryd.params3] at ht
        have hm : t ∈ [22, 25] := by simpa using Array.mem_of_getElem? ht
        have hall : ([22, 25].all fun u => !Tryd.prog.wantsStandIn u) = true := by kernel_rfl
        exact (show Tryd.prog.wantsStandIn t = false by simpa using List.all_eq_true.1 hall t hm)⟩)
    (by kernel_rfl)

end Go.Proofs.YtlbbljjfejhniaaDoor
