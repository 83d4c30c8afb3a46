/- Some of the things that lie apart, in any order. -/
import Derived.Test.YtgifeckbflkkpaaGreatDoorQp01
import Derived.Test.YtgifeckbflkkpaaGreatDoorQp36
namespace Go.Proofs.YtgifeckbflkkpaaGreatDoor
set_option linter.unusedVariables false
set_option maxHeartbeats 1000000
def pkAt : List Thing → Nat → Option Thing
 | [],_ => none
 | a :: _,0 => some a
 | _ :: l,n + 1 => pkAt l n
def pks (L : List Thing) : List Nat → List Thing
 | [] => []
 | i :: is => match pkAt L i with
  | some a => a :: pks L is
  | none => pks L is
def tkT : Nat → List Thing → List Thing
 | 0,_ => []
 | _,[] => []
 | n + 1,a :: l => a :: tkT n l
def dpT : Nat → List Thing → List Thing
 | 0,l => l
 | _,[] => []
 | n + 1,_ :: l => dpT n l
theorem tkdp : ∀ (n : Nat) (l : List Thing),tkT n l ++ dpT n l = l
 | 0,l => rfl
 | n + 1,[] => rfl
 | n + 1,a :: l => by show a :: (tkT n l ++ dpT n l) = _; rw [tkdp n l]
theorem pkAt_get : ∀ (L : List Thing) (i : Nat),pkAt L i = L[i]?
 | [],i => by simp [pkAt]
 | a :: l,0 => by simp [pkAt]
 | a :: l,n + 1 => by simp [pkAt,pkAt_get l n]
theorem pks_map (L : List Thing) : ∀ is : List Nat,pks L is = is.filterMap (fun i => L[i]?)
 | [] => rfl
 | i :: is => by
  rw [pks,pkAt_get,List.filterMap_cons,pks_map L is]
  cases L[i]? <;> rfl
theorem range_get (L : List Thing) : (List.range L.length).filterMap (fun i => L[i]?) = L := by
 apply List.ext_getElem?
 intro i
 induction L generalizing i with
 | nil => simp
 | cons a l ih =>
  rw [List.length_cons,List.range_succ_eq_map,List.filterMap_cons]
  simp only [List.getElem?_cons_zero]
  cases i with
  | zero => rfl
  | succ i =>
   rw [List.getElem?_cons_succ,List.getElem?_cons_succ,List.filterMap_map]
   have e : ((fun i => (a :: l)[i]?) ∘ Nat.succ) = fun i => l[i]? := by funext j; simp
   rw [e]
   exact ih i
theorem Own.dropL {w0 w : World} {A B : List Thing} (h : Own w0 w (A ++ B)) : Own w0 w A := by
 have h2 : Own w0 w (B ++ A) := h.perm List.perm_append_comm
 clear h
 induction B with
 | nil => exact h2
 | cons b B ih => exact ih h2.tail
theorem Own.sel {w0 w : World} {L : List Thing} (h : Own w0 w L) (k : Nat) (is : List Nat) (hn : is.Nodup) : Own w0 w (pks (tkT k L) is ++ dpT k L) := by
 rw [← tkdp k L] at h
 generalize dpT k L = D at *
 generalize tkT k L = X at *
 clear L
 rw [pks_map]
 have hp : (is.filterMap (fun i => X[i]?) ++ ((List.range X.length).filter (fun i => decide (i ∉ is))).filterMap (fun i => X[i]?)).Perm X := by
  have e1 : is.filterMap (fun i => X[i]?) = (is.filter (fun i => decide (i < X.length))).filterMap (fun i => X[i]?) := by
   rw [List.filterMap_filter]
   congr 1
   funext i
   by_cases c : i < X.length
   ·simp [c]
   ·simp [c]
  rw [e1,← List.filterMap_append]
  have hq : (is.filter (fun i => decide (i < X.length)) ++ (List.range X.length).filter (fun i => decide (i ∉ is))).Perm (List.range X.length) := by
   refine (List.perm_ext_iff_of_nodup ?_ List.nodup_range).2 (fun a => ?_)
   ·rw [List.nodup_append]
    refine ⟨hn.filter _,List.nodup_range.filter _,?_⟩
    rintro a ha b hb rfl
    have h1 := (List.mem_filter.1 ha).1
    have h2 := (List.mem_filter.1 hb).2
    simp at h2
    exact h2 h1
   ·rw [List.mem_append,List.mem_filter,List.mem_filter,List.mem_range]
    by_cases c : a ∈ is
    ·simp [c]
    ·simp [c]
  have := hq.filterMap (fun i => X[i]?)
  rw [range_get] at this
  exact this
 have h2 : Own w0 w ((is.filterMap (fun i => X[i]?) ++ D) ++ ((List.range X.length).filter (fun i => decide (i ∉ is))).filterMap (fun i => X[i]?)) := by
  refine h.perm ((List.Perm.append_right D hp.symm).trans ?_)
  rw [List.append_assoc,List.append_assoc]
  exact List.Perm.append_left _ List.perm_append_comm
 exact h2.dropL
example (w0 w : World) (A B C D : Thing) (l : List Thing) (h : Own w0 w (A :: B :: C :: D :: l)) : Own w0 w (D :: A :: C :: l) := h.sel 4 [3,0,2] (by decide)
end Go.Proofs.YtgifeckbflkkpaaGreatDoor
namespace Go.Proofs.YtgifeckbflkkpaaGreatDoor
open Go.RowKit
set_option linter.unusedVariables false
set_option maxHeartbeats 1000000
set_option maxRecDepth 100000
def tv (H : List HeE) : List (Nat × List En) := H.map fun x => (x.t,evs x.L)
theorem tv_len {H G : List HeE} (h : tv H = tv G) : H.length = G.length := by
 have := congrArg List.length h
 simpa [tv] using this
theorem tv_below (t : Nat) {H G : List HeE} (h : tv H = tv G) : below t (H.map HeE.r) = below t (G.map HeE.r) := by
 have e : ∀ H : List HeE,below t (H.map HeE.r) = below t (tv H) := fun H => by
  induction H with
  | nil => rfl
  | cons x L ih =>
   unfold below tv at ih ⊢
   simp only [List.map_cons,List.takeWhile_cons]
   show (if decide (x.t < t) = true then _ else _ : List _).length = (if decide (x.t < t) = true then _ else _ : List _).length
   split
   ·simp only [List.length_cons]; rw [ih]
   ·rfl
 rw [e,e,h]
theorem tv_hget (t : Nat) {H G : List HeE} (h : tv H = tv G) : (hget H t).map (fun x => evs x.L) = (hget G t).map (fun x => evs x.L) := by
 have e : ∀ H : List HeE,(hget H t).map (fun x => evs x.L) = ((tv H)[below t (H.map HeE.r)]?).bind fun z => if z.1 = t then some z.2 else none := fun H => by
  unfold hget tv
  rw [List.getElem?_map]
  cases H[below t (H.map HeE.r)]? with
  | none => rfl
  | some x =>
   simp only [Option.map_some,Option.bind_some]
   split <;> rfl
 rw [e,e,h,tv_below t h]
theorem tv_lbo {H G : List HeE} (h : tv H = tv G) (as_ : Bool) (at_ : Nat) : lbo H as_ at_ = lbo G as_ at_ := by
 unfold lbo
 split
 ·have e : ∀ o : Option HeE,o.map (fun x => (at_,evs x.L)) = (o.map (fun x => evs x.L)).map (fun z => (at_,z)) := fun o => by cases o <;> rfl
  rw [e,e,tv_hget at_ h]
 ·rfl
theorem tv_put (k : Nat) {H G : List HeE} (h : tv H = tv G) {y z : HeE} (ht : y.t = z.t) (hL : evs y.L = evs z.L) : tv (putH k H y) = tv (putH k G z) := by
 have e : tv (H ++ [y]) = tv (G ++ [z]) := by
  show (H ++ [y]).map _ = (G ++ [z]).map _
  rw [List.map_append,List.map_append]
  show tv H ++ [(y.t,evs y.L)] = tv G ++ [(z.t,evs z.L)]
  rw [h,ht,hL]
 unfold putH
 rw [tv_len h]
 split
 ·show ((H ++ [y]).drop 1).map _ = ((G ++ [z]).drop 1).map _
  rw [List.map_drop,List.map_drop]
  exact congrArg _ e
 ·exact e
theorem tv_drop (n : Nat) {H G : List HeE} (h : tv H = tv G) : tv (H.drop n) = tv (G.drop n) := by
 show (H.drop n).map _ = (G.drop n).map _
 rw [List.map_drop,List.map_drop]
 exact congrArg _ h
theorem tv_tick {H G : List HeE} (h : tv H = tv G) : H.map HeE.t = G.map HeE.t := by
 have e : ∀ H : List HeE,H.map HeE.t = (tv H).map (·.1) := fun H => by simp [tv]
 rw [e,e,h]
theorem SendR.one {c e bud st t : Nat} {ss : Bool} {bo : Option (Nat × List En)} {N : List En} {code1 code2 st1 st2 : Nat} {P1 P2 : List Nat} {ss1 ss2 put1 put2 : Bool} (h1 : SendR c e bud ss st bo t N code1 P1 ss1 st1 put1) (h2 : SendR c e bud ss st bo t N code2 P2 ss2 st2 put2) : code1 = code2 ∧ P1 = P2 ∧ ss1 = ss2 ∧ st1 = st2 ∧ put1 = put2 := by
 unfold SendR at h1 h2
 generalize lfit c e bud t bo N = f at *
 generalize lfrm c e bud t bo N = fr at *
 generalize fm 0 N = x at *
 rcases h1 with ⟨a1,a2,a3,a4,a5,a6,a7⟩ | ⟨a1,a2,a3,a4,a5,a6,a7⟩ | ⟨a1,a2,a3,a4,a5,a6,a7,a8⟩ | ⟨a1,a2,a3,a4,a5,a6,a7,a8⟩ <;>
  rcases h2 with ⟨b1,b2,b3,b4,b5,b6,b7⟩ | ⟨b1,b2,b3,b4,b5,b6,b7⟩ | ⟨b1,b2,b3,b4,b5,b6,b7,b8⟩ | ⟨b1,b2,b3,b4,b5,b6,b7,b8⟩ <;>
  simp_all
theorem AckR.one {as_ : Bool} {at_ : Nat} {H G : List HeE} (h : tv H = tv G) {t code1 code2 at1 at2 n1 n2 : Nat} {as1 as2 : Bool} (h1 : AckR as_ at_ H t code1 as1 at1 n1) (h2 : AckR as_ at_ G t code2 as2 at2 n2) : code1 = code2 ∧ as1 = as2 ∧ at1 = at2 ∧ n1 = n2 := by
 unfold AckR at h1 h2
 have hg := tv_hget t h
 have hb := tv_below t h
 generalize below t (H.map HeE.r) = x at *
 generalize below t (G.map HeE.r) = y at *
 generalize hget H t = a at *
 generalize hget G t = b at *
 subst hb
 rcases h1 with ⟨a1,a2,a3,a4,a5,a6⟩ | ⟨a1,a2,a3,a4,a5,a6⟩ | ⟨a1,⟨z1,a2⟩,a3,a4,a5,a6⟩ <;>
  rcases h2 with ⟨b1,b2,b3,b4,b5,b6⟩ | ⟨b1,b2,b3,b4,b5,b6⟩ | ⟨b1,⟨z2,b2⟩,b3,b4,b5,b6⟩ <;>
  simp_all
def pv (p : Option (Nat × Nat)) : Option Addr := p.map fun x => ⟨x.1,0,none⟩
def qv (q : Option Nat) : Option Addr := q.map fun b => ⟨b,0,none⟩
def LnO (p : Option (Nat × Nat)) (c e k bud : Nat) (ss : Bool) (st : Nat) (as_ : Bool) (at_ : Nat) (H : List HeE) : Thing := match p with
 | none => Ex (fun _ : Unit => [])
 | some x => Ex (fun _ : Unit => [Cells x.1 (lc c e bud x.2 ss st as_ at_) 128,Ringe x.2 k (H.map HeE.r)])
def RLO (q : Option Nat) (c e k bud : Nat) (sm am : Int) (H : List HeE) : Thing := match q with
 | none => Ex (fun _ : Unit => [])
 | some b => RLn b c e k bud sm am H
section
variable {w0 w : World} {l : List Thing} {c e k bud st at_ b rb : Nat} {ss as_ : Bool} {H : List HeE} {sm am : Int}
theorem Own.toLn (h : Own w0 w (Cells b (lc c e bud rb ss st as_ at_) 128 :: Ringe rb k (H.map HeE.r) :: l)) : Own w0 w (LnO (some (b,rb)) c e k bud ss st as_ at_ H :: l) := Own.ex_iff.2 ⟨(),h⟩
theorem Own.ofLn (h : Own w0 w (LnO (some (b,rb)) c e k bud ss st as_ at_ H :: l)) : Own w0 w (Cells b (lc c e bud rb ss st as_ at_) 128 :: Ringe rb k (H.map HeE.r) :: l) := (Own.ex_iff.1 h).elim fun _ h => h
theorem Own.nilLn (h : Own w0 w l) : Own w0 w (LnO none c e k bud ss st as_ at_ H :: l) := Own.ex_iff.2 ⟨(),h⟩
theorem Own.nilRL (h : Own w0 w l) : Own w0 w (RLO none c e k bud sm am H :: l) := Own.ex_iff.2 ⟨(),h⟩
end
def SendO (z : Bool) (c e bud : Nat) (ss : Bool) (st : Nat) (bo : Option (Nat × List En)) (t : Nat) (N : List En) (code : Nat) (P : List Nat) (ss' : Bool) (st' : Nat) (put : Bool) : Prop := (z = true ∧ code = 10 ∧ P = [] ∧ ss' = ss ∧ st' = st ∧ put = false) ∨ (z = false ∧ SendR c e bud ss st bo t N code P ss' st' put)
theorem SendO.one {z : Bool} {c e bud st t : Nat} {ss : Bool} {bo : Option (Nat × List En)} {N : List En} {code1 code2 st1 st2 : Nat} {P1 P2 : List Nat} {ss1 ss2 put1 put2 : Bool} (h1 : SendO z c e bud ss st bo t N code1 P1 ss1 st1 put1) (h2 : SendO z c e bud ss st bo t N code2 P2 ss2 st2 put2) : code1 = code2 ∧ P1 = P2 ∧ ss1 = ss2 ∧ st1 = st2 ∧ put1 = put2 := by
 rcases h1 with ⟨h0,rfl,rfl,rfl,rfl,rfl⟩ | ⟨h0,h1⟩ <;> rcases h2 with ⟨g0,rfl,rfl,rfl,rfl,rfl⟩ | ⟨g0,h2⟩
 ·exact ⟨rfl,rfl,rfl,rfl,rfl⟩
 ·rw [h0] at g0; cases g0
 ·rw [h0] at g0; cases g0
 ·exact h1.one h2
theorem SendO.up {z : Bool} {c e bud st t : Nat} {ss : Bool} {bo : Option (Nat × List En)} {N : List En} {code st' : Nat} {P : List Nat} {ss' put : Bool} (h : SendO z c e bud ss st bo t N code P ss' st' put) : (put = false ∧ ((ss' = ss ∧ st' = st) ∨ ((ss && decide (t ≤ st)) = false ∧ ss' = true ∧ st' = t))) ∨ (put = true ∧ (ss && decide (t ≤ st)) = false ∧ ss' = true ∧ st' = t) := by
 rcases h with ⟨_,_,_,h1,h2,h3⟩ | ⟨_,⟨_,_,_,_,h1,h2,h3⟩ | ⟨_,_,_,_,h1,h2,h3⟩ | ⟨h0,_,_,_,_,h1,h2,h3⟩ | ⟨h0,_,_,_,_,h1,h2,h3⟩⟩
 ·exact .inl ⟨h3,.inl ⟨h1,h2⟩⟩
 ·exact .inl ⟨h3,.inl ⟨h1,h2⟩⟩
 ·exact .inl ⟨h3,.inl ⟨h1,h2⟩⟩
 ·exact .inl ⟨h3,.inr ⟨h0,h1,h2⟩⟩
 ·exact .inr ⟨h3,h0,h1,h2⟩
def AckO (z as_ : Bool) (at_ : Nat) (H : List HeE) (t code : Nat) (as' : Bool) (at' n : Nat) : Prop := (z = true ∧ code = 10 ∧ as' = as_ ∧ at' = at_ ∧ n = 0) ∨ (z = false ∧ AckR as_ at_ H t code as' at' n)
theorem AckO.one {z as_ : Bool} {at_ : Nat} {H G : List HeE} (h : tv H = tv G) {t code1 code2 at1 at2 n1 n2 : Nat} {as1 as2 : Bool} (h1 : AckO z as_ at_ H t code1 as1 at1 n1) (h2 : AckO z as_ at_ G t code2 as2 at2 n2) : code1 = code2 ∧ as1 = as2 ∧ at1 = at2 ∧ n1 = n2 := by
 rcases h1 with ⟨h0,rfl,rfl,rfl,rfl⟩ | ⟨h0,h1⟩ <;> rcases h2 with ⟨g0,rfl,rfl,rfl,rfl⟩ | ⟨g0,h2⟩
 ·exact ⟨rfl,rfl,rfl,rfl⟩
 ·rw [h0] at g0; cases g0
 ·rw [h0] at g0; cases g0
 ·exact AckR.one h h1 h2
theorem AckO.lt {z as_ : Bool} {at_ : Nat} {H : List HeE} {t code at' n : Nat} {as' : Bool} (h : AckO z as_ at_ H t code as' at' n) (ht : t < 4294967296) (ha : at_ < 4294967296) : at' < 4294967296 := by
 rcases h with ⟨_,_,_,rfl,_⟩ | ⟨_,⟨_,_,_,_,rfl,_⟩ | ⟨_,_,_,_,rfl,_⟩ | ⟨_,_,_,_,rfl,_⟩⟩ <;> assumption
theorem lsend_nil (w : World) (t : Int) (an : Option Addr) (nn cn : Nat) : Calls Tryz.prog 23 #[.pointer none,.int .u32 t,.slice an nn cn] w fun x w' => x = .returned (.tuple #[.slice none 0 0,.int .i64 10]) ∧ Fr Nobody w w' := by
 go_enter Tryz.func23,Tryz.ntmps23
 go_wp2
 go_ret2
 exact ⟨rfl,Fr.refl _ _⟩
theorem rsend_nil (w : World) (t : Int) (an : Option Addr) (nn cn : Nat) : Calls Tryz.prog 24 #[.pointer none,.int .u32 t,.slice an nn cn] w fun x w' => x = .returned (.tuple #[.slice none 0 0,.int .i64 10]) ∧ Fr Nobody w w' := by
 go_enter Tryz.func24,Tryz.ntmps24
 go_wp2
 go_ret2
 exact ⟨rfl,Fr.refl _ _⟩
theorem lack_nil (w : World) (t : Int) : Calls Tryz.prog 25 #[.pointer none,.int .u32 t] w fun x w' => x = .returned (.int .i64 10) ∧ Fr Nobody w w' := by
 go_enter Tryz.func25,Tryz.ntmps25
 go_wp2
 go_ret
 exact ⟨rfl,Fr.refl _ _⟩
theorem rack_nil (w : World) (t : Int) : Calls Tryz.prog 26 #[.pointer none,.int .u32 t] w fun x w' => x = .returned (.int .i64 10) ∧ Fr Nobody w w' := by
 go_enter Tryz.func26,Tryz.ntmps26
 go_wp2
 go_ret
 exact ⟨rfl,Fr.refl _ _⟩
theorem lbase_nil (w : World) : Calls Tryz.prog 27 #[.pointer none] w fun x w' => x = .returned (.tuple #[.int .u32 0,.bool false]) ∧ Fr Nobody w w' := by
 go_enter Tryz.func27,Tryz.ntmps27
 go_wp2
 go_ret2
 exact ⟨rfl,Fr.refl _ _⟩
theorem rbase_nil (w : World) : Calls Tryz.prog 28 #[.pointer none] w fun x w' => x = .returned (.tuple #[.int .u32 0,.bool false]) ∧ Fr Nobody w w' := by
 go_enter Tryz.func28,Tryz.ntmps28
 go_wp2
 go_ret2
 exact ⟨rfl,Fr.refl _ _⟩
theorem lheld_nil (w : World) : Calls Tryz.prog 30 #[.pointer none] w fun x w' => x = .returned (.slice none 0 0) ∧ Fr Nobody w w' := by
 go_enter Tryz.func30,Tryz.ntmps30
 go_wp2
 go_ret
 exact ⟨rfl,Fr.refl _ _⟩
theorem lepoch_nil (w : World) : Calls Tryz.prog 22 #[.pointer none] w fun x w' => x = .returned (.int .u32 0) ∧ Fr Nobody w w' := by
 go_enter Tryz.func22,Tryz.ntmps22
 go_wp2
 go_ret
 exact ⟨rfl,Fr.refl _ _⟩
theorem lepoch (w0 w : World) (l : List Thing) (b c e bud rb st at_ : Nat) (ss as_ : Bool) (h : Own w0 w (Cells b (lc c e bud rb ss st as_ at_) 128 :: l)) : Calls Tryz.prog 22 #[.pointer (some ⟨b,0,none⟩)] w fun x w' => x = .returned (.int .u32 (e : Int)) ∧ Fr Nobody w w' := by
 have p1 := h.cell 1
 simp [lc] at p1
 clear h
 go_enter Tryz.func22,Tryz.ntmps22
 go_wp2
 go_ret
 exact ⟨rfl,Fr.refl _ _⟩
theorem lheld (w0 w : World) (l : List Thing) (b c e bud rb k st at_ : Nat) (ss as_ : Bool) (H : List HeE) (hR : ROk k (H.map HeE.r)) (h : Own w0 w (Cells b (lc c e bud rb ss st as_ at_) 128 :: Ringe rb k (H.map HeE.r) :: l)) : Calls Tryz.prog 30 #[.pointer (some ⟨b,0,none⟩)] w fun x w' => ∃ ao cap,x = .returned (.slice ao H.length cap) ∧ Own w0 w' (Row 27 1 (.slice ao H.length cap) H.length (irow .u32 (H.map HeE.t)) :: Cells b (lc c e bud rb ss st as_ at_) 128 :: Ringe rb k (H.map HeE.r) :: l) := by
 have HT : Hid (Calls _ _ _ _ _) := tickse w0 w _ rb k (H.map HeE.r) h.two hR
 have p3 := h.cell 3
 simp [lc] at p3
 have e1 : (H.map HeE.r).length = H.length := List.length_map _
 have e2 : tkse (H.map HeE.r) = H.map HeE.t := by unfold tkse; rw [List.map_map]; rfl
 rw [e1,e2] at HT
 clear h hR e1 e2
 go_enter Tryz.func30,Tryz.ntmps30
 go_wp2_with fail
 refine HT.out.mono ?_
 rintro x w1 ⟨ao,cap,rfl,h1⟩
 have H1 : Hid (Own w0 w1 _) := h1.sel 3 [0,2,1] (by decide)
 clear h1 HT
 go_wp2
 go_ret
 exact ⟨ao,cap,rfl,H1.out⟩
theorem bnum_ (c : Bool) (a : Nat) : (if c = true then (a : Int) else 0) = ((if c = true then a else 0 : Nat) : Int) := by split <;> rfl
end Go.Proofs.YtgifeckbflkkpaaGreatDoor
