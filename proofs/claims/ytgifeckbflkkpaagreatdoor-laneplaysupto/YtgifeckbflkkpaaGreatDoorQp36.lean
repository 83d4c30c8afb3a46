/- A slice that has its row to itself from some place of it on: what 'l = l[1:]' leaves, and append to it. -/
import Derived.Test.YtgifeckbflkkpaaGreatDoorQp01
import Derived.Test.YtgifeckbflkkpaaGreatDoorQp15
import Derived.Deep.AppendLies
import Derived.Test.YtgifeckbflkkpaaGreatDoorQp35
namespace Go.Proofs.YtgifeckbflkkpaaGreatDoor
set_option linter.unusedVariables false
set_option maxHeartbeats 2000000
def OffRow (e : TypeId) (s : Nat) (v : Value) (n : Nat) (xs : List Value) : Thing where
 is := fun w A => xs.length = n * s ∧ ((v = .slice none 0 0 ∧ n = 0 ∧ ∀ k,¬ A k) ∨ ∃ g o cap cur,v = .slice (some ⟨g,o,none⟩) n cap ∧ w.heap[g]? = some (.cells cur e (0,0)) ∧ n ≤ cap ∧ cap ≤ maxLen ∧ cur.size = o + cap * s ∧ (cur.toList.drop o).take (n * s) = xs ∧ ∀ k,A k ↔ k = g)
 lt := by
  rintro w A k ⟨_,⟨_,_,h⟩ | ⟨g,o,cap,cur,_,hg,_,_,_,_,hA⟩⟩ a
  ·exact (h k a).elim
  ·rw [(hA k).1 a]; exact (Array.getElem?_eq_some_iff.1 hg).1
 keep := by
  rintro w w' A B ⟨hl,⟨h1,h2,h⟩ | ⟨g,o,cap,cur,hv,hg,h1,h2,h3,h4,hA⟩⟩ hf hn
  ·exact ⟨hl,.inl ⟨h1,h2,h⟩⟩
  ·exact ⟨hl,.inr ⟨g,o,cap,cur,hv,(hf.block g (Array.getElem?_eq_some_iff.1 hg).1 (hn g ((hA g).2 rfl))).trans hg,h1,h2,h3,h4,hA⟩⟩
section
variable {w0 w w' : World} {l : List Thing} {e : TypeId} {s n m cap g o : Nat} {v : Value} {xs ys : List Value}
theorem Own.oNil (h : Own w0 w l) (e : TypeId) (s : Nat) : Own w0 w (OffRow e s (.slice none 0 0) 0 [] :: l) :=
 h.new (OffRow e s (.slice none 0 0) 0 []) (fun _ => False) ⟨by simp,.inl ⟨rfl,rfl,fun _ h => h⟩⟩ (Fr.refl _ _) (fun k h => h.elim)
theorem Own.oOf (h : Own w0 w (Row e s v n xs :: l)) : Own w0 w (OffRow e s v n xs :: l) := by
 obtain ⟨A,⟨B,C,hB,hC,hbc,hA⟩,hF,hlo⟩ := h
 have hr := hB.1
 refine ⟨A,⟨B,C,⟨hr.1,?_⟩,hC,hbc,hA⟩,hF,hlo⟩
 rcases hr.2 with ⟨hv,h0⟩ | ⟨g,cap,cur,hv,_,hg,h1,h2,h3,h4⟩
 ·refine .inl ⟨hv,h0,fun k a => ?_⟩
  have := (hB.2 k).1 a
  rw [hv] at this
  simp [Value.ownBlock] at this
 ·refine .inr ⟨g,0,cap,cur,hv,hg,h1,h2,by omega,by simpa using h4,fun k => ?_⟩
  rw [hB.2 k,hv]
  simp [Value.ownBlock]
  exact eq_comm
theorem Own.oShape (h : Own w0 w (OffRow e s v n xs :: l)) : ∃ ao cap,v = .slice ao n cap ∧ n ≤ cap ∧ cap ≤ maxLen ∧ xs.length = n * s := by
 obtain ⟨A,⟨B,C,hB,_⟩,_⟩ := h
 rcases hB.2 with ⟨rfl,rfl,_⟩ | ⟨g,o,cap,cur,rfl,_,h1,h2,_⟩
 ·exact ⟨none,0,rfl,Nat.le_refl _,Nat.zero_le _,hB.1⟩
 ·exact ⟨_,cap,rfl,h1,h2,hB.1⟩
theorem Own.oCell (h : Own w0 w (OffRow e s v n xs :: l)) (hn : 0 < n) : ∃ g o cap,v = .slice (some ⟨g,o,none⟩) n cap ∧ ∀ j u,xs[j]? = some u → w.cell? ⟨g,o + j,none⟩ = some u := by
 obtain ⟨A,⟨B,C,hB,_⟩,_⟩ := h
 rcases hB.2 with ⟨_,h0,_⟩ | ⟨g,o,cap,cur,rfl,hg,h1,h2,h3,h4,_⟩
 ·omega
 ·refine ⟨g,o,cap,rfl,fun j u hu => ?_⟩
  rw [← h4,List.getElem?_take] at hu
  split at hu
  ·rw [List.getElem?_drop] at hu
   simp only [World.cell?,hg]
   simpa using hu
  ·cases hu
theorem Own.oTail (h : Own w0 w (OffRow e s (.slice (some ⟨g,o,none⟩) n cap) n xs :: l)) (hm : m ≤ n) : Own w0 w (OffRow e s (.slice (some ⟨g,o + m * s,none⟩) (n - m) (cap - m)) (n - m) (xs.drop (m * s)) :: l) := by
 obtain ⟨A,⟨B,C,hB,hC,hbc,hA⟩,hF,hlo⟩ := h
 refine ⟨A,⟨B,C,⟨by rw [List.length_drop,hB.1,Nat.sub_mul],?_⟩,hC,hbc,hA⟩,hF,hlo⟩
 rcases hB.2 with ⟨hv,_⟩ | ⟨g',o',cap',cur,hv,hg,h1,h2,h3,h4,hk⟩
 ·cases hv
 ·obtain ⟨h5,_,h6⟩ := Value.slice.inj hv
  cases h5
  subst h6
  have hms : m * s ≤ cap * s := Nat.mul_le_mul_right _ (by omega)
  refine .inr ⟨g,o + m * s,cap - m,cur,rfl,hg,by omega,by omega,by rw [h3,Nat.sub_mul]; omega,?_,hk⟩
  rw [← h4,List.drop_take,List.drop_drop,Nat.sub_mul]
end
theorem run_append_at {P : Program} (w : World) (t ty e : TypeId) (i : TypeInfo) (ht : P.underlying t = some (.slice e)) (hi : P.info? e = some i)
  (g o sLen sCap : Nat) (cur : Array Value) (hg : w.heap[g]? = some (.cells cur e (0,0)))
  (a : Addr) (m c : Nat) (news : List Value) (hl : news.length = m * i.size) (hnews : ∀ j u,news[j]? = some u → w.cell? (a.add j) = some u) (h1 : ∀ u ∈ news,u.oneCell' = true)
  (hroom : sLen + m ≤ sCap) (hfit : o + sLen * i.size + news.length ≤ cur.size) :
  (Builtin.append_ #[t,t] ty #[.slice (some ⟨g,o,none⟩) sLen sCap,.slice (some a) m c]).run P w =
   .ok (.slice (some ⟨g,o,none⟩) (sLen + m) sCap) (w.setRow g (cur.toList.take (o + sLen * i.size) ++ news ++ cur.toList.drop (o + sLen * i.size + news.length)).toArray) := by
 have hf := run_firstCells_some (P := P) w i.size m a m c news hl hnews
 have hst := run_storeCells_at P g (o + sLen * i.size) e news 0 cur w hg (by simpa using hfit) h1
 simp only [Nat.add_zero] at hst
 simp [Builtin.append_,run_underlying ht,sizeOf,typeInfo,hi,Builtin.lenOf,hroom,hf,addr_add,hst]
theorem step_off {P : Program} {w0 w : World} {l : List Thing} {ops : Array Oper} {op : Oper} {a : Act} {K : Act → World → Prop} {Q : Exit → Act → World → Prop} {E : Prop} (hgd : op.guard = none) (sx x : Operand) (t : TypeId)
  (ho : op.op = .call { callee := .builtin .append,args := #[sx,x],argTypes := #[t,t] })
  (e : TypeId) (i : TypeInfo) (z : Value) (size bytes : Nat) (ht : P.underlying t = some (.slice e)) (hi : P.info? e = some i) (hz : i.zero = some z)
  (hsize : i.size = size) (hby : i.bytes = bytes) (hzs : z.cells.size = size) (hsz : 0 < size)
  (v : Value) (n : Nat) (xs : List Value) (hs : a.eval sx = v) (hown : Own w0 w (OffRow e size v n xs :: l))
  (ad : Addr) (m c : Nat) (news : List Value) (hx : a.eval x = .slice (some ad) m c) (hl : news.length = m * size) (hnews : ∀ j u,news[j]? = some u → w.cell? (ad.add j) = some u) (h1 : ∀ u ∈ news,u.oneCell' = true)
  (hm : 0 < m) (h63 : n + m ≤ maxLen) (hbytes : (n + m) * bytes ≤ 140737488355328)
  (h : ∀ ao cap w',Own w0 w' (OffRow e size (.slice ao (n + m) cap) (n + m) (xs ++ news) :: l) → K (a.put op.dst (.slice ao (n + m) cap)) w') :
  if Region.wanted op (yielded ops a.tmps) = true then Oper.wp P op a w K Q else E := by
 have hw : Region.wanted op (yielded ops a.tmps) = true := by simp [Region.wanted,hgd]
 rw [if_pos hw]
 have hown0 := hown
 obtain ⟨A,⟨hlen,hB⟩,hlo,k⟩ := hown.act
 have hlen2 : (xs ++ news).length = (n + m) * size := by rw [List.length_append,hlen,hl,Nat.add_mul]
 rcases hB with ⟨rfl,rfl,hno⟩ | ⟨g,o,cap,cur,rfl,hg,hnc,hcm,hcs,htake,hA⟩
 ·have hx0 : xs = [] := List.eq_nil_of_length_eq_zero (by rw [hlen]; simp)
  subst hx0
  have hr : Own w0 w (Row e size (.slice none 0 0) 0 [] :: l) := hown0.tail.nilRow e size
  refine wp_append_lies w sx x t ho 0 e i z size bytes ht hi hz hsize hby hzs hsz _ 0 [] hs hr.row ad m c news hx hl hnews h1 hm h63 hbytes (Nat.zero_le _) _ rfl ?_
  intro g cap w' h2 h3 h4 h5
  refine h _ _ w' (Own.oOf (hr.grow h2 h3 (fun k hk => ?_)))
  have hk' : g = k := by simpa [Value.ownBlock] using hk
  subst hk'
  rcases h4 with h4 | h4
  ·exact .inl h4
  ·exact .inr (by omega)
 ·subst hsize
  by_cases hroom : n + m ≤ cap
  ·have hfit : o + n * i.size + news.length ≤ cur.size := by
    rw [hl,hcs]
    have := Nat.mul_le_mul_right i.size hroom
    rw [Nat.add_mul] at this
    omega
   have hr := run_append_at (P := P) w t op.type e i ht hi g o n cap cur hg ad m c news hl hnews h1 hroom hfit
   unfold Oper.wp execOp
   simp only [ho,resolve,invoke,builtin,Sem.run_bind,Sem.run_pure,Result.andThen_ok,List.map_toArray,List.map_cons,List.map_nil,hs,hx,hr]
   refine h _ cap _ ?_
   refine k _ (OffRow e i.size (.slice (some ⟨g,o,none⟩) (n + m) cap) (n + m) (xs ++ news)) A ⟨hlen2,.inr ⟨g,o,cap,_,rfl,setRow_heap w g cur _ e _ hg,hroom,hcm,?_,?_,hA⟩⟩ ?_ (fun _ a => .inl a)
   ·simp only [List.size_toArray,List.length_append,List.length_take,List.length_drop,Array.length_toList]
    omega
   ·have ho' : o ≤ (cur.toList.take (o + n * i.size)).length := by
     rw [List.length_take,Array.length_toList]
     have := Nat.le_add_right o (n * i.size)
     omega
    show ((cur.toList.take (o + n * i.size) ++ news ++ cur.toList.drop (o + n * i.size + news.length)).drop o).take ((n + m) * i.size) = xs ++ news
    rw [List.append_assoc,List.drop_append_of_le_length ho',List.drop_take,Nat.add_sub_cancel_left,htake,← List.append_assoc,← hlen2]
    exact List.take_left
   ·exact (Fr.refl A w).grown (row := some g) ⟨rfl,rfl,rfl,by simp,fun k _ hk => setRow_other w g k _ (fun e => hk (by rw [e]))⟩ (fun k hk => .inl ((hA k).2 (Option.some.inj hk).symm))
  ·have holds : ∀ j u,xs[j]? = some u → w.cell? ((⟨g,o,none⟩ : Addr).add j) = some u := fun j u hu => by
    obtain ⟨g',o',cap',hv,hc⟩ := hown0.oCell (by
     rcases Nat.eq_zero_or_pos n with h0 | h0
     ·subst h0
      have e0 : xs = [] := List.eq_nil_of_length_eq_zero (by rw [hlen]; simp)
      rw [e0] at hu
      simp at hu
     ·exact h0)
    cases (Value.slice.inj hv).1
    rw [addr_add]; exact hc j u hu
   have hr := run_append_grow (P := P) w t op.type e i z ht hi hz ⟨g,o,none⟩ n cap xs hlen holds ad m c news hl hnews (by omega) (by unfold maxLen at h63; omega) (growslice_fits (by omega) (by rw [hby]; exact hbytes))
   unfold Oper.wp execOp
   simp only [ho,resolve,invoke,builtin,Sem.run_bind,Sem.run_pure,Result.andThen_ok,List.map_toArray,List.map_cons,List.map_nil,hs,hx,hr]
   refine h _ _ _ ?_
   refine k _ (OffRow e i.size _ (n + m) (xs ++ news)) (fun k => k = w.heap.size) ⟨hlen2,.inr ⟨w.heap.size,0,_,_,rfl,heap_alloc_new w.drew _,grownCap_ge w (n + m) cap e,grownCap_le_maxLen w (n + m) cap e h63,?_,?_,fun _ => Iff.rfl⟩⟩ ?_ (fun k a => .inr (by omega))
   ·have hge := grownCap_ge w (n + m) cap e
    simp only [Array.size_append,List.size_toArray,size_zeroCells,hzs,hlen,hl,← Nat.add_mul]
    rw [Nat.zero_add]
    congr 1
    omega
   ·simp only [Array.toList_append,List.append_assoc,List.drop_zero]
    rw [← List.append_assoc,← hlen2]
    exact List.take_left
   ·exact (Fr.refl A w).grown (row := none) ⟨rfl,rfl,rfl,by simp,fun k hk _ => heap_alloc_old w.drew _ hk⟩ (fun k hk => by cases hk)
end Go.Proofs.YtgifeckbflkkpaaGreatDoor
namespace Go.Proofs.YtgifeckbflkkpaaGreatDoor
open Go.RowKit
set_option linter.unusedVariables false
set_option maxHeartbeats 2000000
set_option maxRecDepth 100000
theorem Tryz.infoSent : (Tryz.prog.info? 138).map (fun i => (i.zero,i.size,i.bytes)) = some (some (.agg #[.int .u32 0,.slice none 0 0]),2,32) := by kernel_rfl
def mrk (s : Bool) (t : Nat) : Int := if s = true then (t : Int) else -1
def rlc (c e k bud : Nat) (v : Value) (sm am : Int) : Array Value := #[.int .u8 (c : Int),.int .u32 (e : Int),.int .i64 (k : Int),.int .i64 (bud : Int),v,.int .i64 sm,.int .i64 am]
def RLn (b c e k bud : Nat) (sm am : Int) (H : List HeE) : Thing := Ex (fun v : Value => [Cells b (rlc c e k bud v sm am) 131,OffRow 138 2 v H.length (cat ele (H.map HeE.r))])
theorem rlnew (w0 w : World) (l : List Thing) (h : Own w0 w l) (c e : Nat) (hc : c < 16) (he : e ≠ 0) (k bud : Nat) (hk : 1 ≤ k) (hk2 : k ≤ 64) (hb : 1 ≤ bud) (hb2 : bud ≤ 4100) :
  Calls Tryz.prog 21 #[.int .u8 (c : Int),.int .u32 (e : Int),.int .i64 (k : Int),.int .i64 (bud : Int)] w fun x w' => ∃ b,x = .returned (.tuple #[.pointer (some ⟨b,0,none⟩),.int .i64 0]) ∧ Own w0 w' (RLn b c e k bud (-1) (-1) [] :: l) := by
 have g1 : ¬ (15 : Int) < (c : Int) := by omega
 have g2 : ((e : Int) == 0) = false := by rw [beq_eq_false_iff_ne]; omega
 have g3 : ¬ (k : Int) < 1 := by omega
 have g4 : ¬ (64 : Int) < (k : Int) := by omega
 have g5 : ¬ (bud : Int) < 1 := by omega
 have g6 : ¬ (4100 : Int) < (bud : Int) := by omega
 have H : Hid (Own w0 w l) := h
 clear h hc he hk hk2 hb hb2
 go_enter Tryz.func21,Tryz.ntmps21
 go_wp2
 go_ret2
 refine ⟨_,rfl,Own.ex_iff.2 ⟨.slice none 0 0,?_⟩⟩
 exact (((H.out.allocC (rlc c e k bud (.slice none 0 0) (-1) (-1)) 131).oNil 138 2)).two
theorem sent_at {w0 w : World} {l : List Thing} {ao : Option Addr} {cap : Nat} {H : List HeE} (h : Own w0 w (OffRow 138 2 (.slice ao H.length cap) H.length (cat ele (H.map HeE.r)) :: l)) {i : Nat} {x : HeE} (hx : H[i]? = some x) :
  ∃ g o,ao = some ⟨g,o,none⟩ ∧ w.cell? ⟨g,o + i * 2,none⟩ = some (.int .u32 (x.t : Int)) ∧ w.cell? ⟨g,o + i * 2 + 1,none⟩ = some (.slice x.ao x.L.length x.cap) := by
 have hi := (List.getElem?_eq_some_iff.1 hx).1
 obtain ⟨g,o,cap',hv,hc⟩ := h.oCell (by omega)
 have hx' : (H.map HeE.r)[i]? = some x.r := by rw [List.getElem?_map,hx]; rfl
 refine ⟨g,o,(Value.slice.inj hv).1,?_,?_⟩
 ·exact hc _ _ ((cat_at ele 2 ele_len _ i 0 x.r hx' (by decide)).trans rfl)
 ·rw [Nat.add_assoc]; exact hc _ _ ((cat_at ele 2 ele_len _ i 1 x.r hx' (by decide)).trans rfl)
def fi (H : List HeE) (t : Nat) : Int := if (hget H t).isSome = true then ((below t (H.map HeE.r) : Nat) : Int) else -1
theorem hget_at {k : Nat} {H : List HeE} (hR : ROk k (H.map HeE.r)) {i : Nat} {x : HeE} (hx : H[i]? = some x) : below x.t (H.map HeE.r) = i ∧ hget H x.t = some x := by
 have hb : below x.t (H.map HeE.r) = i := by
  have hlt := (List.getElem?_eq_some_iff.1 hx).1
  rcases Nat.lt_trichotomy (below x.t (H.map HeE.r)) i with c | c | c
  ·exfalso
   have hl : below x.t (H.map HeE.r) < (H.map HeE.r).length := by rw [List.length_map]; omega
   have h1 := below_at x.t (H.map HeE.r) _ (List.getElem?_eq_getElem hl)
   have h2 := List.pairwise_iff_getElem.1 hR.inc (below x.t (H.map HeE.r)) i hl (by rw [List.length_map]; exact hlt) c
   have h3 : (H.map HeE.r)[i]'(by rw [List.length_map]; exact hlt) = x.r := by
    have := (List.getElem?_eq_some_iff.1 hx).2
    rw [List.getElem_map,this]
   rw [h3] at h2
   have h4 : (HeE.r x).1 = x.t := rfl
   omega
  ·exact c
  ·exfalso
   have := below_lt x.t (H.map HeE.r) i x.r c (by rw [List.getElem?_map,hx]; rfl)
   have h4 : (HeE.r x).1 = x.t := rfl
   omega
 refine ⟨hb,?_⟩
 unfold hget
 rw [hb,hx]
 simp
theorem hget_no {H : List HeE} {t : Nat} (h : ∀ (i : Nat) x,H[i]? = some x → x.t ≠ t) : hget H t = none := by
 unfold hget
 cases hx : H[below t (H.map HeE.r)]? with
 | none => rfl
 | some x => simp [h _ x hx]
theorem rfind (w0 w : World) (l : List Thing) (b c e k bud : Nat) (sm am : Int) (H : List HeE) (kk : Nat) (hR : ROk kk (H.map HeE.r)) (h : Own w0 w (RLn b c e k bud sm am H :: l)) (t : Nat) :
  Calls Tryz.prog 64 #[.pointer (some ⟨b,0,none⟩),.int .i64 (t : Int)] w fun x w' => x = .returned (.int .i64 (fi H t)) ∧ Fr Nobody w w' := by
 obtain ⟨v,h⟩ := Own.ex_iff.1 h
 obtain ⟨ao,cap,rfl,hlc,hcm,_⟩ := h.two.oShape
 have q4 := h.cell 4
 simp [rlc] at q4
 have HQ : Hid (∀ W,Fr Nobody w W → ∀ (i : Nat) x,H[i]? = some x → ∃ g o,ao = some ⟨g,o,none⟩ ∧ W.cell? ⟨g,o + i * 2,none⟩ = some (.int .u32 (x.t : Int)) ∧ W.cell? ⟨g,o + i * 2 + 1,none⟩ = some (.slice x.ao x.L.length x.cap)) := fun W hf i x hx => sent_at (h.quiet hf).two hx
 have HR : Hid (ROk kk (H.map HeE.r)) := hR
 have hle : H.length ≤ 64 := by have := hR.le; have := hR.k2; rw [List.length_map] at *; omega
 obtain ⟨hl,hhl⟩ : ∃ hl,hl = H.length := ⟨_,rfl⟩
 have HHL : Hid (hl = H.length) := hhl
 rw [← hhl] at q4 hle
 clear h hR hlc hcm hhl
 go_enter Tryz.func64,Tryz.ntmps64
 go_wp2
 go_loopw [12] (fun cc wr => ∃ n : Nat,n ≤ hl ∧ cc = .int .i64 n ∧ (∀ (i : Nat) x,i < n → H[i]? = some x → x.t ≠ t) ∧ Fr Nobody w wr) (fun cc _ => hl - (intOf cc).toNat)
 case atStart => exact ⟨0,Nat.zero_le _,rfl,fun i e hi => by omega,Fr.refl _ _⟩
 case round =>
  obtain ⟨n,hn,rfl,hno,hf⟩ := hrel
  clear q4
  by_cases hlt : n < hl
  ·obtain ⟨x,hx⟩ : ∃ x,H[n]? = some x := ⟨_,List.getElem?_eq_getElem (by rw [← HHL.out]; exact hlt)⟩
   obtain ⟨g,o,rfl,c0,c1⟩ := HQ.out wr hf n x hx
   have he2 : x.t < 4294967296 := HR.out.lt x.r (List.mem_map.2 ⟨x,List.mem_of_getElem? hx,rfl⟩)
   have hlt' : (n : Int) < (hl : Int) := by omega
   have HF : Hid (Fr Nobody w wr) := hf
   have HX : Hid (H[n]? = some x) := hx
   have HN : Hid (∀ (i : Nat) x,i < n → H[i]? = some x → x.t ≠ t) := hno
   clear hx hf hno
   by_cases hte : x.t = t
   ·have HG : Hid (fi H t = (n : Int)) := by
     obtain ⟨h1,h2⟩ := hget_at HR.out HX.out
     rw [hte] at h1 h2
     show _ = _
     unfold fi
     rw [h2,h1]
     simp
    rw [hte] at c0 he2
    clear hte
    go_wp2
    go_ret
    rw [HG.out]
    exact ⟨rfl,(HF.out.alloc _).trans (Fr.refl _ _)⟩
   ·have HN2 : Hid (∀ (i : Nat) x,i < n + 1 → H[i]? = some x → x.t ≠ t) := by
     intro i y hi' hy
     by_cases ci : i = n
     ·subst ci
      rw [HX.out] at hy
      cases hy
      exact hte
     ·exact HN.out i y (by omega) hy
    have hte' : ((x.t : Int) == (t : Int)) = false := by rw [beq_eq_false_iff_ne]; omega
    clear hte
    generalize x.t = xt at *
    go_wp2
    go_roundw
    case rel => exact ⟨n + 1,by omega,by go_num,HN2.out,HF.out.alloc _⟩
    case measure => simp [intOf]; omega
  ·have HG : Hid (fi H t = -1) := by
    show _ = _
    unfold fi
    rw [hget_no (fun i x hx => hno i x (by have := (List.getElem?_eq_some_iff.1 hx).1; have := HHL.out; omega) hx)]
    rfl
   have hlt' : ¬ (n : Int) < (hl : Int) := by omega
   have HF : Hid (Fr Nobody w wr) := hf
   clear hno hf
   go_wp2
   go_ret
   rw [HG.out]
   exact ⟨rfl,HF.out⟩
theorem fi_some {H : List HeE} {t : Nat} {x : HeE} (h : hget H t = some x) : fi H t = ((below t (H.map HeE.r) : Nat) : Int) := by unfold fi; rw [h]; rfl
theorem fi_none {H : List HeE} {t : Nat} (h : hget H t = none) : fi H t = -1 := by unfold fi; rw [h]; rfl
theorem rBase (w0 w : World) (l : List Thing) (b c e k bud : Nat) (sm : Int) (as_ : Bool) (at_ : Nat) (ha : at_ < 4294967296) (H : List HeE) (kk : Nat) (hR : ROk kk (H.map HeE.r)) (h : Own w0 w (RLn b c e k bud sm (mrk as_ at_) H :: l)) :
  Calls Tryz.prog 28 #[.pointer (some ⟨b,0,none⟩)] w fun x w' => x = .returned (.tuple #[.int .u32 (if (lbo H as_ at_).isSome = true then (at_ : Int) else 0),.bool (lbo H as_ at_).isSome]) ∧ Fr Nobody w w' := by
 have HF : Hid (Calls _ _ _ _ _) := rfind w0 w l b c e k bud sm (mrk as_ at_) H kk hR h at_
 obtain ⟨v,h⟩ := Own.ex_iff.1 h
 have q6 := h.cell 6
 simp [rlc] at q6
 clear h hR
 cases as_ with
 | false =>
  have e0 : lbo H false at_ = none := rfl
  rw [e0]
  unfold mrk at q6
  simp at q6
  clear HF e0
  go_enter Tryz.func28,Tryz.ntmps28
  go_wp2
  go_ret2
  exact ⟨rfl,Fr.refl _ _⟩
 | true =>
  have e0 : lbo H true at_ = (hget H at_).map (fun x => (at_,evs x.L)) := rfl
  rw [e0]
  unfold mrk at q6
  simp at q6
  have g0 : ¬ (at_ : Int) < 0 := by omega
  cases hg : hget H at_ with
  | none =>
   rw [fi_none hg] at HF
   clear e0 hg
   go_enter Tryz.func28,Tryz.ntmps28
   go_wp2_with fail
   refine HF.out.mono ?_
   rintro x w1 ⟨rfl,hf⟩
   have HF1 : Hid (Fr Nobody w w1) := hf
   clear hf HF
   go_wp2
   go_ret2
   exact ⟨rfl,HF1.out⟩
  | some x =>
   rw [fi_some hg] at HF
   obtain ⟨n,hn⟩ : ∃ n,n = below at_ (H.map HeE.r) := ⟨_,rfl⟩
   rw [← hn] at HF
   have HQ : Hid (∀ W,Fr Nobody w W → W.cell? ⟨b,6,none⟩ = some (.int .i64 (at_ : Int))) := fun W hf => (hf.cell (World.block_lt_of_cell? _ _ q6) (fun h => h)).trans q6
   have g1 : ¬ (n : Int) < 0 := by omega
   clear e0 hg hn
   go_enter Tryz.func28,Tryz.ntmps28
   go_wp2_with fail
   refine HF.out.mono ?_
   rintro x w1 ⟨rfl,hf⟩
   have q7 := HQ.out w1 hf
   have HF1 : Hid (Fr Nobody w w1) := hf
   clear hf HF q6
   go_wp2
   go_ret2
   exact ⟨rfl,HF1.out⟩
theorem RLn.cells {w0 w : World} {l : List Thing} {b c e k bud : Nat} {sm am : Int} {H : List HeE} (h : Own w0 w (RLn b c e k bud sm am H :: l)) : ∃ ao cap,w.cell? ⟨b,0,none⟩ = some (.int .u8 (c : Int)) ∧ w.cell? ⟨b,1,none⟩ = some (.int .u32 (e : Int)) ∧ w.cell? ⟨b,2,none⟩ = some (.int .i64 (k : Int)) ∧ w.cell? ⟨b,3,none⟩ = some (.int .i64 (bud : Int)) ∧ w.cell? ⟨b,4,none⟩ = some (.slice ao H.length cap) ∧ w.cell? ⟨b,5,none⟩ = some (.int .i64 sm) ∧ w.cell? ⟨b,6,none⟩ = some (.int .i64 am) ∧ H.length ≤ cap ∧ cap ≤ maxLen ∧ Own w0 w (Cells b (rlc c e k bud (.slice ao H.length cap) sm am) 131 :: OffRow 138 2 (.slice ao H.length cap) H.length (cat ele (H.map HeE.r)) :: l) := by
 obtain ⟨v,h⟩ := Own.ex_iff.1 h
 obtain ⟨ao,cap,rfl,hlc,hcm,_⟩ := h.two.oShape
 have q0 := h.cell 0
 have q1 := h.cell 1
 have q2 := h.cell 2
 have q3 := h.cell 3
 have q4 := h.cell 4
 have q5 := h.cell 5
 have q6 := h.cell 6
 simp [rlc] at q0 q1 q2 q3 q4 q5 q6
 exact ⟨ao,cap,q0,q1,q2,q3,q4,q5,q6,hlc,hcm,h⟩
theorem mrk_le (s : Bool) (m t : Nat) : ((t : Int) ≤ mrk s m) ↔ (s && decide (t ≤ m)) = true := by
 unfold mrk
 cases s <;> simp <;> omega
theorem rAck (w0 w : World) (l : List Thing) (b c e k bud : Nat) (sm : Int) (as_ : Bool) (at_ : Nat) (H : List HeE) (kk : Nat) (hR : ROk kk (H.map HeE.r)) (h : Own w0 w (RLn b c e k bud sm (mrk as_ at_) H :: l)) (t : Nat) (ht : t < 4294967296) :
  Calls Tryz.prog 26 #[.pointer (some ⟨b,0,none⟩),.int .u32 (t : Int)] w fun x w' => ∃ (code : Nat) (as' : Bool) (at' n : Nat),x = .returned (.int .i64 (code : Int)) ∧ AckR as_ at_ H t code as' at' n ∧ Own w0 w' (RLn b c e k bud sm (mrk as' at') (H.drop n) :: l) := by
 have HF : Hid (Calls _ _ _ _ _) := rfind w0 w l b c e k bud sm (mrk as_ at_) H kk hR h t
 have HO : Hid (Own w0 w _) := h
 obtain ⟨ao,cap,-,-,-,-,-,-,q6,-⟩ := RLn.cells h
 obtain ⟨am,ham⟩ : ∃ am,am = mrk as_ at_ := ⟨_,rfl⟩
 have hml := mrk_le as_ at_ t
 rw [← ham] at q6 hml
 clear h
 cases hst : (as_ && decide (t ≤ at_)) with
 | true =>
  rw [hst] at hml
  have g0 : (t : Int) ≤ am := hml.2 rfl
  have HST : Hid (as_ = true ∧ t ≤ at_) := by show _ ∧ _; simpa using hst
  clear HF hml hst hR ham
  go_enter Tryz.func26,Tryz.ntmps26
  go_wp2
  go_ret
  exact ⟨12,as_,at_,0,rfl,.inl ⟨HST.out.1,HST.out.2,rfl,rfl,rfl,rfl⟩,HO.out⟩
 | false =>
  rw [hst] at hml
  have g0 : ¬ (t : Int) ≤ am := fun h => by have := hml.1 h; cases this
  have HST : Hid ((as_ && decide (t ≤ at_)) = false) := hst
  cases hg : hget H t with
  | none =>
   rw [fi_none hg] at HF
   have HG : Hid (hget H t = none) := hg
   clear hml hst hR ham hg
   go_enter Tryz.func26,Tryz.ntmps26
   go_wp2_with fail
   refine HF.out.mono ?_
   rintro x w1 ⟨rfl,hf⟩
   have HO1 : Hid (Own w0 w1 _) := HO.out.quiet hf
   clear hf HF HO
   go_wp2
   go_ret
   exact ⟨10,as_,at_,0,rfl,.inr (.inl ⟨HST.out,HG.out,rfl,rfl,rfl,rfl⟩),HO1.out⟩
  | some x =>
   rw [fi_some hg] at HF
   obtain ⟨n,hn⟩ : ∃ n,n = below t (H.map HeE.r) := ⟨_,rfl⟩
   have hnl : n < H.length := by
    rw [hn]
    unfold hget at hg
    split at hg
    ·rename_i y hy; exact (List.getElem?_eq_some_iff.1 hy).1
    ·cases hg
   rw [← hn] at HF
   have HG : Hid ((∃ x,hget H t = some x) ∧ n = below t (H.map HeE.r)) := ⟨⟨x,hg⟩,hn⟩
   have g1 : ¬ (n : Int) < 0 := by omega
   have hle : H.length ≤ 64 := by have := hR.le; have := hR.k2; rw [List.length_map] at *; omega
   clear hml hst hR hg hn ham
   go_enter Tryz.func26,Tryz.ntmps26
   go_wp2_with fail
   refine HF.out.mono ?_
   rintro x w1 ⟨rfl,hf⟩
   clear q6
   have hO1 := HO.out.quiet hf
   obtain ⟨ao1,cap1,q0,q1,q2,q3,q4,q5,q6,hlc,hcm,hO2⟩ := RLn.cells hO1
   obtain ⟨g,o,cap2,hv,-⟩ := hO2.two.oCell (by omega)
   obtain ⟨rfl,_,rfl⟩ := Value.slice.inj hv
   have z4 := hO2.froz 4
   have z6 := hO2.froz 6
   obtain ⟨hl,hhl⟩ : ∃ hl,hl = H.length := ⟨_,rfl⟩
   have HL : Hid (hl = H.length) := hhl
   rw [← hhl] at q4 hlc hnl hle
   have H2 : Hid (Own w0 w1 _) := hO2
   have hcm2 : cap1 ≤ 9223372036854775807 := by unfold maxLen at hcm; omega
   have hne : ¬ cap1 - n = 0 := by omega
   have hne2 : ¬ cap1 = n := by omega
   have hi1 : (n : Int) ≤ (hl : Int) := by omega
   have hi2 : (hl : Int) ≤ (cap1 : Int) := by omega
   clear hf HF HO hO1 hO2 hhl hv hcm
   go_wp2
   go_ret
   refine ⟨0,true,t,n,rfl,.inr (.inr ⟨HST.out,HG.out.1,rfl,rfl,rfl,HG.out.2⟩),?_⟩
   rw [HL.out]
   have hX := ((H2.out.setC 6 (.int .i64 (t : Int))).setC 4 (.slice (some ⟨g,o + n * 2,none⟩) (H.length - n) (cap1 - n))).two.oTail (m := n) (by rw [← HL.out]; omega)
   have e1 : (H.drop n).length = H.length - n := List.length_drop
   have e2 : cat ele ((H.drop n).map HeE.r) = (cat ele (H.map HeE.r)).drop (n * 2) := by rw [List.map_drop]; exact (cat_drop ele 2 ele_len _ n).symm
   refine Own.ex_iff.2 ⟨.slice (some ⟨g,o + n * 2,none⟩) (H.length - n) (cap1 - n),?_⟩
   rw [e1,e2]
   exact hX.two
end Go.Proofs.YtgifeckbflkkpaaGreatDoor
