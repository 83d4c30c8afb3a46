/- The document's world: what its lists of entities say; what a step makes of marks and places. -/
import Derived.Test.YtogmdoiecpihdaaGreatDoorQw40
import Derived.Test.YtogmdoiecpihdaaGreatDoorQw44
import Derived.Test.YtogmdoiecpihdaaGreatDoorQw45
import Derived.Test.YtogmdoiecpihdaaGreatDoorQw46
namespace Go.Proofs.YtogmdoiecpihdaaGreatDoor
open Go.RowKit Go.Maps
set_option linter.unusedVariables false
set_option maxRecDepth 100000
theorem rdo_allR (w0 w : World) (l : List Thing) (b : Nat) (s : Sto × Nat) (h : Own w0 w (RSto b s.1 s.2 :: l)) (hσ : s.1.Ok) (ao : Option Addr) (n cap : Nat) (L : List OrdE) (hn : L.length = n) (hn6 : n ≤ 1000) (hs : s.2 ≤ 800000) (hL : ∀ o ∈ L,o.In) (hO : ∀ w',Own w0 w' l → Ords w' ao L) :
  Calls Tryz.prog 54 #[.pointer (some ⟨b,0,none⟩),.slice ao n cap] w fun e w' => ∃ ra rc,e = .returned (.slice ra n rc) ∧ Own w0 w' (Row 89 2 (.slice ra n rc) n (cat rcel (runs stq s L).1) :: RSto b (runs stq s L).2.1 (runs stq s L).2.2 :: l) ∧ (runs stq s L).2.1.Ok ∧ (runs stq s L).2.2 = s.2 + 2 * n := by
 refine (rall_of (fun s : Sto × Nat => RSto b s.1 s.2) (fun j t => t.1.Ok ∧ t.2 = s.2 + 2 * j) stq w0 w l (some ⟨b,0,none⟩) s h ao n cap L hn (by omega) hO ⟨hσ,by omega⟩ ?_ ?_).mono ?_
 ·intro j t o w' l' ho hI h' hC
  have hj := (List.getElem?_eq_some_iff.1 ho).1
  have hi := hL o (List.mem_of_getElem? ho)
  exact rdo_any w0 w' l' b t h' hI.1 (by rw [hI.2]; omega) o hi hC (fun hb => rdo_bad w0 w' l' _ _ h' o hi (fun w'' h'' => hC _ h''.tail) hb)
 ·intro j t o ho hI
  obtain ⟨a,b⟩ := stq_ok t hI.1 o
  exact ⟨a,by rw [b,hI.2]; omega⟩
 ·rintro e w' ⟨ra,rc,rfl,h1,h2,h3⟩
  exact ⟨ra,rc,rfl,h1,h2,h3⟩
def SeeT (ao : Option Addr) (cap b : Nat) (σ : Sto) (x : RX) : Thing := Ex (fun _ : Unit => [Row 76 2 (.slice ao σ.S.list.length cap) σ.S.list.length (cat rcells (σ.S.list.map (x.at σ))),RSX b σ.S x])
def seeL (σ : Sto) (x : RX) : List EnE := (σ.S.list.map (x.at σ)).map toE
theorem Own.seeS {w0 w : World} {l : List Thing} {ao : Option Addr} {cap b : Nat} {σ : Sto} {x : RX} (h : Own w0 w (Row 76 2 (.slice ao σ.S.list.length cap) σ.S.list.length (cat rcells (σ.S.list.map (x.at σ))) :: RSX b σ.S x :: l)) : Own w0 w (SeeT ao cap b σ x :: l) := Own.ex_iff.2 ⟨(),h⟩
theorem Own.seeO {w0 w : World} {l : List Thing} {ao : Option Addr} {cap b : Nat} {σ : Sto} {x : RX} (h : Own w0 w (SeeT ao cap b σ x :: l)) : Own w0 w (Row 76 2 (.slice ao σ.S.list.length cap) σ.S.list.length (cat rcells (σ.S.list.map (x.at σ))) :: RSX b σ.S x :: l) := by
 obtain ⟨_,h⟩ := Own.ex_iff.1 h
 exact h
theorem seeL_len (σ : Sto) (x : RX) : (seeL σ x).length = σ.S.list.length := by simp [seeL]
theorem seeL_at {σ : Sto} {x : RX} {K : Nat} (hx : RXok σ x K) (hσ : σ.Ok) {j id : Nat} (h : σ.S.list[j]? = some id) : ∃ y,(seeL σ x)[j]? = some y ∧ y.id = id ∧ y.C = σ.cps id ∧ y = toE (x.at σ id) := by
 have hl := (St.list_w hσ.s (List.mem_of_getElem? h)).1
 obtain ⟨_,h1,h2,_⟩ := hx.at hσ hl
 exact ⟨toE (x.at σ id),by simp [seeL,h],h1,h2,rfl⟩
theorem seeL_in {σ : Sto} {x : RX} {K : Nat} (hx : RXok σ x K) (hσ : σ.Ok) {y : EnE} (h : y ∈ seeL σ x) : y.id ∈ σ.S.list ∧ y.C = σ.cps y.id := by
 obtain ⟨j,hj⟩ := List.getElem?_of_mem h
 have hlt := (List.getElem?_eq_some_iff.1 hj).1
 rw [seeL_len] at hlt
 obtain ⟨id,hid⟩ : ∃ id,σ.S.list[j]? = some id := ⟨_,List.getElem?_eq_getElem hlt⟩
 obtain ⟨y2,h2,e1,e2,_⟩ := seeL_at hx hσ hid
 rw [hj] at h2
 cases h2
 rw [e1]
 exact ⟨List.mem_of_getElem? hid,e2⟩
theorem Own.see {w0 w : World} {l : List Thing} {ao : Option Addr} {cap b K : Nat} {σ : Sto} {x : RX} (h : Own w0 w (SeeT ao cap b σ x :: l)) (hx : RXok σ x K) (hσ : σ.Ok) : EntsAt w ao (seeL σ x) := by
 have h1 := h.seeO
 refine ⟨?_,fun y hy => ?_⟩
 ·rcases Nat.eq_zero_or_pos σ.S.list.length with h0 | h0
  ·exact .inl (List.eq_nil_of_length_eq_zero (by rw [seeL_len]; exact h0))
  ·obtain ⟨g,c,hv,_⟩ := row_shape h1.row h0
   have ha := (Value.slice.inj hv).1
   subst ha
   refine .inr ⟨g,0,rfl,fun j y hy => ?_⟩
   have hj := (List.getElem?_eq_some_iff.1 hy).1
   rw [seeL_len] at hj
   have hl : ∀ z : EnE,z.cs.length = 2 := fun _ => rfl
   have hr := h1.row
   rw [← cat_toE] at hr
   rw [Nat.zero_add]
   refine ⟨?_,?_⟩
   ·rw [hr.cellAt _ (by omega)]; exact (cat_at EnE.cs 2 hl (seeL σ x) j 0 y hy (by decide)).trans rfl
   ·rw [hr.cellAt _ (by omega)]; exact (cat_at EnE.cs 2 hl (seeL σ x) j 1 y hy (by decide)).trans rfl
 ·obtain ⟨d,hd,rfl⟩ := List.mem_map.1 hy
  obtain ⟨id,hid,rfl⟩ := List.mem_map.1 hd
  have hl := (St.list_w hσ.s hid).1
  have := hx.atCs hσ hl h1.two
  have e := (hx.at hσ hl).2.2.1
  show Cs w (x.at σ id).2.2.1 (x.at σ id).2.1
  rw [e]; exact this
def gcp (σ : Sto) (id k : Nat) : Option Cp := if id ∈ σ.S.list then fst (σ.cps id) k else none
theorem getE_of {L : List EnE} {f : Nat → List Cp} (h : ∀ y ∈ L,y.C = f y.id) (id k : Nat) : getE L id k = if (∃ y ∈ L,y.id = id) then fst (f id) k else none := by
 induction L with
 | nil => simp [getE]
 | cons y L ih =>
  have ih := ih (fun z hz => h z (List.mem_cons_of_mem _ hz))
  have hy := h y List.mem_cons_self
  unfold getE at ih ⊢
  rw [List.findSome?_cons]
  by_cases c : y.id = id
  ·rw [if_pos c,hy,c]
   have he : ∃ z ∈ y :: L,z.id = id := ⟨y,List.mem_cons_self,c⟩
   rw [if_pos he]
   cases hf : fst (f id) k with
   | some q => rfl
   | none =>
    simp only
    rw [ih,hf]
    split <;> rfl
  ·rw [if_neg c]
   simp only
   rw [ih]
   by_cases d : ∃ z ∈ L,z.id = id
   ·obtain ⟨z,hz,hz2⟩ := d
    rw [if_pos ⟨z,hz,hz2⟩,if_pos ⟨z,List.mem_cons_of_mem _ hz,hz2⟩]
   ·rw [if_neg d,if_neg]
    rintro ⟨z,hz,hz2⟩
    rcases List.mem_cons.1 hz with rfl | hz
    ·exact c hz2
    ·exact d ⟨z,hz,hz2⟩
theorem getE_see {σ : Sto} {x : RX} {K : Nat} (hx : RXok σ x K) (hσ : σ.Ok) (id k : Nat) : getE (seeL σ x) id k = gcp σ id k := by
 rw [getE_of (f := σ.cps) (fun y hy => (seeL_in hx hσ hy).2)]
 unfold gcp
 by_cases c : id ∈ σ.S.list
 ·rw [if_pos c,if_pos]
  obtain ⟨j,hj⟩ := List.getElem?_of_mem c
  obtain ⟨y,hy,e,_⟩ := seeL_at hx hσ hj
  exact ⟨y,List.mem_of_getElem? hy,e⟩
 ·rw [if_neg c,if_neg]
  rintro ⟨y,hy,rfl⟩
  exact c (seeL_in hx hσ hy).1
theorem rget_see {w0 w : World} {l : List Thing} {ao : Option Addr} {cap b K n : Nat} {σ : Sto} {x : RX} (h : Own w0 w (SeeT ao cap b σ x :: l)) (hx : RXok σ x K) (hσ : σ.Ok) (hn : n = σ.S.list.length) (id k : Nat) (hk : k < 256) :
  Calls Tryz.prog 58 #[.slice ao n cap,.int .u32 (id : Int),.int .u8 (k : Int)] w fun e w' => e = .returned (gag (gcp σ id k)) ∧ Fr Nobody w w' := by
 have hlen := list_lenW hσ.s
 rw [← getE_see hx hσ]
 refine rget15 w ao n cap (seeL σ x) (by rw [seeL_len,hn]) (h.see hx hσ) (fun y hy => ?_) (fun y hy => ?_) (by omega) (fun y hy => ?_) id k hk
 ·obtain ⟨h1,h2⟩ := seeL_in hx hσ hy
  refine ⟨(St.list_w hσ.s h1).2,fun q hq => ?_⟩
  rw [h2] at hq
  have := (cps_good hσ h1).2 q hq
  omega
 ·obtain ⟨h1,h2⟩ := seeL_in hx hσ hy
  rw [h2]; exact (cps_good hσ h1).1
 ·obtain ⟨h1,h2⟩ := seeL_in hx hσ hy
  rw [h2]
  obtain ⟨r,C,hr,he,hC,_⟩ := hσ.ent (St.list_w hσ.s h1).1
  rw [Sto.cps_of hr he]
  exact Nat.le_trans (lst_len6 hC) (by decide)
def mkA (σ : Sto) (M : List MkE) (T : Nat) (x : Nat × Cp) : MkE := ⟨x.1,x.2.k,if gcp σ x.1 x.2.k = some x.2 then chgM M x.1 x.2.k else T⟩
def plA (σ : Sto) (P : List PlE) (x : Nat × Cp) : List PlE := if gcp σ x.1 x.2.k = some x.2 then P else if x.2.k = 0 then ins P ⟨x.1,true,x.2.a,x.2.b⟩ else P
def plB (σ σ' : Sto) (P : List PlE) (id : Nat) : List PlE := if (gcp σ id 0).isNone = true then P else if (gcp σ' id 0).isNone = true then ins P ⟨id,false,0,0⟩ else P
theorem ins_len (P : List PlE) (p : PlE) : (ins P p).length = P.length + 1 := by
 have := (ins_perm p P).length_eq
 simpa using this
theorem plA_len (σ : Sto) (A : List (Nat × Cp)) : (A.foldl (plA σ) []).length ≤ A.length := by
 have : ∀ (A : List (Nat × Cp)) (P : List PlE),(A.foldl (plA σ) P).length ≤ P.length + A.length := by
  intro A
  induction A with
  | nil => intro P; simp
  | cons x A ih =>
   intro P
   rw [List.foldl_cons]
   have := ih (plA σ P x)
   have h2 : (plA σ P x).length ≤ P.length + 1 := by
    unfold plA
    split
    ·omega
    ·split
     ·rw [ins_len]; omega
     ·omega
   rw [List.length_cons]; omega
 simpa using this A []
theorem plB_len (σ σ' : Sto) (B : List Nat) (P : List PlE) : (B.foldl (plB σ σ') P).length ≤ P.length + B.length := by
 induction B generalizing P with
 | nil => simp
 | cons x B ih =>
  rw [List.foldl_cons]
  have := ih (plB σ σ' P x)
  have h2 : (plB σ σ' P x).length ≤ P.length + 1 := by
   unfold plB
   split
   ·omega
   ·split
    ·rw [ins_len]; omega
    ·omega
  rw [List.length_cons]; omega
def RWd.next (x : RWd) (K : Nat) : RWd :=
 let σ' := (runs stq (x.σ,K) x.E).2.1.sys
 ⟨x.T + 1,σ',[],(allS σ').map (mkA x.σ x.M (x.T + 1)),x.σ.S.list.foldl (plB x.σ σ') ((allS σ').foldl (plA x.σ) [])⟩
theorem Tryz.infoMk : (Tryz.prog.info? 121).map (fun i => (i.zero,i.size,i.bytes)) = some (some (.agg #[.int .u32 0,.int .u8 0,.int .u32 0]),3,12) := by kernel_rfl
theorem cat_mk1 (L : List MkE) (p : MkE) : cat MkE.cs (L ++ [p]) = cat MkE.cs L ++ [.int .u32 (p.id : Int),.int .u8 (p.k : Int),.int .u32 (p.t : Int)] := by rw [cat_append]; rfl
end Go.Proofs.YtogmdoiecpihdaaGreatDoor
