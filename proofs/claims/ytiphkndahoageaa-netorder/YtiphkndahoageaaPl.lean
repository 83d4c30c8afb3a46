/-
  Plain facts on lists of bits and the bytes that hold them: no program is named here.
-/
import Derived.Test.YtiphkndahoageaaXm
import Derived.WalkKit
namespace Go.Proofs.Ytiphkndahoageaa

def bitsN : Nat → Nat → List Bool
  | 0, _ => []
  | n + 1, v => (v % 2 == 1) :: bitsN n (v / 2)

def num : List Bool → Nat
  | [] => 0
  | b :: l => b.toNat + 2 * num l

def bt (L : List Bool) (i : Nat) : Nat := (L[i]?.getD false).toNat
def byteAt (L : List Bool) (i : Nat) : Nat :=
  bt L (8 * i) + 2 * bt L (8 * i + 1) + 4 * bt L (8 * i + 2) + 8 * bt L (8 * i + 3) + 16 * bt L (8 * i + 4) + 32 * bt L (8 * i + 5) + 64 * bt L (8 * i + 6) + 128 * bt L (8 * i + 7)
def nb (n : Nat) : Nat := (n + 7) / 8
def pack (L : List Bool) : List Nat := (List.range (nb L.length)).map (byteAt L)
def vrow (ps : List Nat) : List Value := ps.map (fun (x : Nat) => Value.int .u8 (x : Int))
theorem bt_le (L : List Bool) (i : Nat) : bt L i ≤ 1 := by unfold bt; cases L[i]?.getD false <;> simp
theorem byteAt_lt (L : List Bool) (i : Nat) : byteAt L i < 256 := by
  have h0 := bt_le L (8 * i); have h1 := bt_le L (8 * i + 1); have h2 := bt_le L (8 * i + 2); have h3 := bt_le L (8 * i + 3)
  have h4 := bt_le L (8 * i + 4); have h5 := bt_le L (8 * i + 5); have h6 := bt_le L (8 * i + 6); have h7 := bt_le L (8 * i + 7)
  unfold byteAt; omega
theorem bt_out (L : List Bool) (i : Nat) (h : L.length ≤ i) : bt L i = 0 := by unfold bt; simp [h]
theorem bt_snoc (L : List Bool) (b : Bool) (i : Nat) : bt (L ++ [b]) i = if i = L.length then b.toNat else bt L i := by
  unfold bt
  by_cases h : i < L.length
  · rw [if_neg (by omega), List.getElem?_append_left h]
  · by_cases e : i = L.length
    · subst e; simp
    · rw [if_neg e, List.getElem?_eq_none (by simp; omega), List.getElem?_eq_none (by omega)]
theorem length_pack (L : List Bool) : (pack L).length = nb L.length := by simp [pack]
theorem length_vrow (l : List Nat) : (vrow l).length = l.length := by simp [vrow]
/-- the byte that a further bit goes into holds nothing from that bit on -/
theorem byteAt_small (L : List Bool) : byteAt L (L.length / 8) < 2 ^ (L.length % 8) := by
  have z : ∀ j, L.length ≤ j → bt L j = 0 := bt_out L
  have hm : L.length % 8 < 8 := Nat.mod_lt _ (by decide)
  have e : L.length = 8 * (L.length / 8) + L.length % 8 := by omega
  generalize hq : L.length / 8 = q at *
  generalize hr : L.length % 8 = r at *
  have h0 := bt_le L (8 * q); have h1 := bt_le L (8 * q + 1); have h2 := bt_le L (8 * q + 2); have h3 := bt_le L (8 * q + 3)
  have h4 := bt_le L (8 * q + 4); have h5 := bt_le L (8 * q + 5); have h6 := bt_le L (8 * q + 6); have h7 := bt_le L (8 * q + 7)
  unfold byteAt
  have c : r = 0 ∨ r = 1 ∨ r = 2 ∨ r = 3 ∨ r = 4 ∨ r = 5 ∨ r = 6 ∨ r = 7 := by omega
  rcases c with rfl | rfl | rfl | rfl | rfl | rfl | rfl | rfl
  · rw [z (8 * q) (by omega), z (8 * q + 1) (by omega), z (8 * q + 2) (by omega), z (8 * q + 3) (by omega), z (8 * q + 4) (by omega), z (8 * q + 5) (by omega), z (8 * q + 6) (by omega), z (8 * q + 7) (by omega)]; decide
  · rw [z (8 * q + 1) (by omega), z (8 * q + 2) (by omega), z (8 * q + 3) (by omega), z (8 * q + 4) (by omega), z (8 * q + 5) (by omega), z (8 * q + 6) (by omega), z (8 * q + 7) (by omega)]; omega
  · rw [z (8 * q + 2) (by omega), z (8 * q + 3) (by omega), z (8 * q + 4) (by omega), z (8 * q + 5) (by omega), z (8 * q + 6) (by omega), z (8 * q + 7) (by omega)]; omega
  · rw [z (8 * q + 3) (by omega), z (8 * q + 4) (by omega), z (8 * q + 5) (by omega), z (8 * q + 6) (by omega), z (8 * q + 7) (by omega)]; omega
  · rw [z (8 * q + 4) (by omega), z (8 * q + 5) (by omega), z (8 * q + 6) (by omega), z (8 * q + 7) (by omega)]; omega
  · rw [z (8 * q + 5) (by omega), z (8 * q + 6) (by omega), z (8 * q + 7) (by omega)]; omega
  · rw [z (8 * q + 6) (by omega), z (8 * q + 7) (by omega)]; omega
  · rw [z (8 * q + 7) (by omega)]; omega

theorem byteAt_snoc (L : List Bool) (b : Bool) (i : Nat) : byteAt (L ++ [b]) i = if i = L.length / 8 then byteAt L i + b.toNat * 2 ^ (L.length % 8) else byteAt L i := by
  have hm : L.length % 8 < 8 := Nat.mod_lt _ (by decide)
  have e : L.length = 8 * (L.length / 8) + L.length % 8 := by omega
  have z := bt_out L L.length (Nat.le_refl _)
  generalize hq : L.length / 8 = q at *
  generalize hr : L.length % 8 = r at *
  unfold byteAt
  simp only [bt_snoc]
  by_cases hi : i = q
  · subst hi
    rw [if_pos rfl]
    have c : r = 0 ∨ r = 1 ∨ r = 2 ∨ r = 3 ∨ r = 4 ∨ r = 5 ∨ r = 6 ∨ r = 7 := by omega
    rw [e] at z ⊢
    rcases c with rfl | rfl | rfl | rfl | rfl | rfl | rfl | rfl
    all_goals simp only [Nat.add_zero, Nat.add_left_cancel_iff] at *
    all_goals simp [z]
    all_goals omega
  · rw [if_neg hi, if_neg (by omega), if_neg (by omega), if_neg (by omega), if_neg (by omega), if_neg (by omega), if_neg (by omega), if_neg (by omega), if_neg (by omega)]

theorem getElem?_pack (L : List Bool) (i : Nat) : (pack L)[i]? = if i < nb L.length then some (byteAt L i) else none := by
  unfold pack
  by_cases h : i < nb L.length
  · rw [if_pos h, List.getElem?_map, List.getElem?_range h]; rfl
  · rw [if_neg h, List.getElem?_eq_none (by simp; omega)]

/-- one bit more, where it begins a byte -/
theorem pack_snoc_new (L : List Bool) (b : Bool) (h : L.length % 8 = 0) : pack (L ++ [b]) = (pack L ++ [0]).set (L.length / 8) (b.toNat * 2 ^ (L.length % 8)) := by
  have hn : nb L.length = L.length / 8 := by unfold nb; omega
  apply List.ext_getElem?
  intro i
  rw [getElem?_pack, List.length_append, List.length_singleton, byteAt_snoc, List.getElem?_set, List.length_append, length_pack, hn]
  have hs : nb (L.length + 1) = L.length / 8 + 1 := by unfold nb; omega
  have hz : byteAt L (L.length / 8) = 0 := by have := byteAt_small L; rw [h] at this; omega
  rw [hs]
  by_cases c : i < L.length / 8
  · rw [if_pos (by omega), if_neg (by omega), if_neg (by omega), List.getElem?_append_left (by rw [length_pack, hn]; exact c), getElem?_pack, if_pos (by omega)]
  · by_cases c2 : i = L.length / 8
    · subst c2; rw [if_pos (by omega), if_pos rfl, if_pos rfl, if_pos (by simp), hz, Nat.zero_add]
    · rw [if_neg (by omega), if_neg (by omega), List.getElem?_eq_none (by simp [length_pack, hn]; omega)]

/-- one bit more, within a byte -/
theorem pack_snoc_in (L : List Bool) (b : Bool) (h : L.length % 8 ≠ 0) : pack (L ++ [b]) = (pack L).set (L.length / 8) (byteAt L (L.length / 8) + b.toNat * 2 ^ (L.length % 8)) := by
  have hn : nb L.length = L.length / 8 + 1 := by unfold nb; omega
  apply List.ext_getElem?
  intro i
  rw [getElem?_pack, List.length_append, List.length_singleton, byteAt_snoc, List.getElem?_set, length_pack, hn, getElem?_pack, hn]
  have hs : nb (L.length + 1) = L.length / 8 + 1 := by unfold nb; omega
  rw [hs]
  by_cases c2 : i = L.length / 8
  · subst c2; rw [if_pos (by omega), if_pos rfl, if_pos rfl, if_pos (by simp)]
  · rw [if_neg c2, if_neg (show ¬ L.length / 8 = i from fun e => c2 e.symm)]

theorem vrow_set (l : List Nat) (i x : Nat) : vrow (l.set i x) = (vrow l).set i (.int .u8 (x : Int)) := by simp [vrow, List.map_set]
theorem vrow_append (l m : List Nat) : vrow (l ++ m) = vrow l ++ vrow m := by simp [vrow]
theorem getElem?_vrow (l : List Nat) (i : Nat) : (vrow l)[i]? = (l[i]?).map (fun (x : Nat) => Value.int .u8 (x : Int)) := by simp [vrow]

/-- 'x | bit << r', x below 2^r: the sum -/
theorem or_bit (x r : Nat) (b : Bool) (hx : x < 2 ^ r) : x ||| (b.toNat <<< r) = x + b.toNat * 2 ^ r := by
  rw [Nat.or_comm, ← Nat.shiftLeft_add_eq_or_of_lt hx, Nat.shiftLeft_eq, Nat.add_comm]

theorem length_bitsN (n v : Nat) : (bitsN n v).length = n := by
  induction n generalizing v with
  | zero => rfl
  | succ n ih => simp [bitsN, ih]
theorem bitsN_snoc (n v : Nat) : bitsN (n + 1) v = bitsN n v ++ [v / 2 ^ n % 2 == 1] := by
  induction n generalizing v with
  | zero => simp [bitsN]
  | succ n ih =>
    rw [bitsN, ih (v / 2), bitsN, List.cons_append, Nat.div_div_eq_div_mul, ← Nat.pow_succ']
theorem num_lt (l : List Bool) : num l < 2 ^ l.length := by
  induction l with
  | nil => simp [num]
  | cons b l ih => rw [num, List.length_cons, Nat.pow_succ]; cases b <;> simp <;> omega
theorem num_bitsN (n v : Nat) : num (bitsN n v) = v % 2 ^ n := by
  induction n generalizing v with
  | zero => simp [bitsN, num, Nat.mod_one]
  | succ n ih =>
    rw [bitsN, num, ih (v / 2), Nat.pow_succ', Nat.mod_mul]
    have h : v % 2 = 0 ∨ v % 2 = 1 := by omega
    rcases h with h | h <;> simp [h]
theorem bitsN_num (l : List Bool) : bitsN l.length (num l) = l := by
  induction l with
  | nil => rfl
  | cons b l ih =>
    rw [List.length_cons, bitsN, num]
    have h1 : (b.toNat + 2 * num l) / 2 = num l := by cases b <;> simp <;> omega
    have h2 : ((b.toNat + 2 * num l) % 2 == 1) = b := by cases b <;> simp <;> omega
    rw [h1, h2, ih]
theorem num_append (l m : List Bool) : num (l ++ m) = num l + 2 ^ l.length * num m := by
  induction l with
  | nil => simp [num]
  | cons b l ih => simp only [List.cons_append, num, ih, List.length_cons, Nat.pow_succ']; rw [Nat.mul_add, Nat.mul_assoc]; omega

end Go.Proofs.Ytiphkndahoageaa

