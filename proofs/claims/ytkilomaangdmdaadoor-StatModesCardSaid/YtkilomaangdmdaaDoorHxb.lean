/- Modes as texts: the mathematics; no program's run. -/
import Derived.Test.YtkilomaangdmdaaDoorHxp
namespace Go.Proofs.YtkilomaangdmdaaDoor
set_option linter.unusedVariables false
open Go.RowKit

theorem wr32 (n : Nat) (h : n < 4294967296) : IntKind.u32.wrap (n : Int) = (n : Int) := by simp [IntKind.wrap, IntKind.signed, IntKind.bits]; omega
theorem bv32 (a : Nat) (ha : a < 4294967296) : (BitVec.ofInt 32 (a : Int)).toNat = a := by rw [BitVec.ofInt_natCast, BitVec.toNat_ofNat]; exact Nat.mod_eq_of_lt (by omega)
theorem and32 (a b : Nat) (ha : a < 4294967296) (hb : b < 4294967296) : bits .and .u32 (a : Int) (b : Int) = ((a &&& b : Nat) : Int) := by
  have hx : a &&& b < 2 ^ 32 := Nat.and_lt_two_pow _ (by omega)
  show IntKind.u32.wrap ((BitVec.ofInt 32 (a : Int) &&& BitVec.ofInt 32 (b : Int)).toNat : Int) = _
  rw [BitVec.toNat_and, bv32 a ha, bv32 b hb, wr32 _ (by omega)]
theorem orb32 (a b : Nat) (ha : a < 4294967296) (hb : b < 4294967296) : bits .or .u32 (a : Int) (b : Int) = ((a ||| b : Nat) : Int) ∧ a ||| b < 4294967296 := by
  have hx : a ||| b < 2 ^ 32 := Nat.or_lt_two_pow (by omega) (by omega)
  refine ⟨?_, by omega⟩
  show IntKind.u32.wrap ((BitVec.ofInt 32 (a : Int) ||| BitVec.ofInt 32 (b : Int)).toNat : Int) = _
  rw [BitVec.toNat_or, bv32 a ha, bv32 b hb, wr32 _ (by omega)]
/-- a without b's bits. -/
def off (a b : Nat) : Nat := a ^^^ (a &&& b)
theorem off_lt (a b : Nat) (ha : a < 4294967296) : off a b < 4294967296 := Nat.xor_lt_two_pow (n := 32) (by omega) (Nat.lt_of_le_of_lt Nat.and_le_left (by omega))
theorem andnot32 (a b : Nat) (ha : a < 4294967296) (hb : b < 4294967296) : bits .andNot .u32 (a : Int) (b : Int) = ((off a b : Nat) : Int) := by
  show IntKind.u32.wrap ((BitVec.ofInt 32 (a : Int) &&& ~~~ BitVec.ofInt 32 (b : Int)).toNat : Int) = _
  have h : (BitVec.ofInt 32 (a : Int) &&& ~~~ BitVec.ofInt 32 (b : Int)) = BitVec.ofInt 32 (a : Int) ^^^ (BitVec.ofInt 32 (a : Int) &&& BitVec.ofInt 32 (b : Int)) := by
    ext i hi
    simp
    generalize (BitVec.ofNat 32 a)[i] = x
    generalize (BitVec.ofNat 32 b)[i] = y
    cases x <;> cases y <;> rfl
  rw [h, BitVec.toNat_xor, BitVec.toNat_and, bv32 a ha, bv32 b hb]
  exact wr32 _ (off_lt a b ha)

def sgs : List UInt8 := [100, 97, 108, 116, 114, 119, 120, 114, 119, 120, 114, 119, 120]
def bts : List Nat := [2147483648, 1073741824, 536870912, 67108864, 256, 128, 64, 32, 16, 8, 4, 2, 1]
def sg (i : Nat) : UInt8 := sgs.getD i 0
def bt (i : Nat) : Nat := bts.getD i 0
def pw (i : Nat) : Nat := ([31, 30, 29, 26, 8, 7, 6, 5, 4, 3, 2, 1, 0] : List Nat).getD i 0
theorem bt_pw (i : Nat) (h : i < 13) : bt i = 2 ^ pw i := by
  have : ∀ x : Fin 13, bt x.val = 2 ^ pw x.val := by decide
  exact this ⟨i, h⟩
theorem bt_lt (i : Nat) : bt i < 4294967296 := by
  by_cases h : i < 13
  · have : ∀ x : Fin 13, bt x.val < 4294967296 := by decide
    exact this ⟨i, h⟩
  · unfold bt
    rw [List.getD_eq_getElem?_getD, List.getElem?_eq_none (by simp [bts]; omega)]
    decide
theorem sg_ne (i : Nat) (h : i < 13) : sg i ≠ 45 ∧ sg i ≠ 43 := by
  have : ∀ x : Fin 13, sg x.val ≠ 45 ∧ sg x.val ≠ 43 := by decide
  exact this ⟨i, h⟩
/-- A mode's letter at a place; what of it is left behind so many places. -/
def let' (n i : Nat) : UInt8 := if n &&& bt i = 0 then 45 else sg i
def lets (n k : Nat) : List UInt8 := (List.range k).map (let' n)
def rest (n : Nat) : Nat → Nat
  | 0 => n
  | k + 1 => off (rest n k) (bt k)
theorem lets_succ (n k : Nat) : lets n (k + 1) = lets n k ++ [let' n k] := by unfold lets; rw [List.range_succ, List.map_append]; rfl
theorem lets_len (n k : Nat) : (lets n k).length = k := by simp [lets]
theorem rest_lt (n : Nat) (h : n < 4294967296) : ∀ k, rest n k < 4294967296
  | 0 => h
  | k + 1 => off_lt _ _ (rest_lt n h k)
/-- A mode as a text. -/
def mode (n : Nat) : List UInt8 := lets n 13 ++ if rest n 13 = 0 then [] else 43 :: hx 8 (rest n 13)
/-- The bits whose letters stand at their places. -/
def litK (l : List UInt8) : Nat → Nat
  | 0 => 0
  | k + 1 => if l[k]? = some (sg k) then litK l k ||| bt k else litK l k
theorem litK_lt (l : List UInt8) : ∀ k, litK l k < 4294967296
  | 0 => by unfold litK; decide
  | k + 1 => by
    unfold litK
    split
    · exact Nat.or_lt_two_pow (n := 32) (litK_lt l k) (bt_lt k)
    · exact litK_lt l k

theorem and_pow (n k : Nat) : n &&& 2 ^ k = if n.testBit k then 2 ^ k else 0 := by
  apply Nat.eq_of_testBit_eq
  intro i
  rw [Nat.testBit_and, Nat.testBit_two_pow]
  by_cases e : k = i
  · subst e
    cases h : n.testBit k <;> simp
  · cases h : n.testBit k <;> simp [e]
theorem bit_of (n i : Nat) (h : i < 13) (h0 : n &&& bt i ≠ 0) : n &&& bt i = bt i := by
  rw [bt_pw i h] at h0 ⊢
  rw [and_pow] at h0 ⊢
  cases hb : n.testBit (pw i)
  · rw [hb] at h0; simp at h0
  · simp
theorem step_or (n acc o b : Nat) (h : acc ||| o = n) (hb : n &&& b = b ∨ n &&& b = 0) : (if n &&& b = 0 then acc else acc ||| b) ||| off o b = n := by
  apply Nat.eq_of_testBit_eq
  intro k
  have h1 : (acc.testBit k || o.testBit k) = n.testBit k := by rw [← h, Nat.testBit_or]
  have h2 : n &&& b = 0 → (n.testBit k && b.testBit k) = false := fun e => by rw [← Nat.testBit_and, e]; simp
  have h3 : n &&& b = b → (n.testBit k && b.testBit k) = b.testBit k := fun e => by rw [← Nat.testBit_and, e]
  unfold off
  split
  · rename_i e
    have := h2 e
    rw [Nat.testBit_or, Nat.testBit_xor, Nat.testBit_and]
    revert h1 this
    cases acc.testBit k <;> cases o.testBit k <;> cases n.testBit k <;> cases b.testBit k <;> simp
  · rename_i e
    have := h3 (by rcases hb with x | x; exact x; exact absurd x e)
    rw [Nat.testBit_or, Nat.testBit_or, Nat.testBit_xor, Nat.testBit_and]
    revert h1 this
    cases acc.testBit k <;> cases o.testBit k <;> cases n.testBit k <;> cases b.testBit k <;> simp
/-- What the letters tell, and what is left, make the mode. -/
theorem lits_rest (n : Nat) (m : List UInt8) : ∀ k, k ≤ 13 → litK (lets n 13 ++ m) k ||| rest n k = n := by
  intro k
  induction k with
  | zero => intro _; simp [litK, rest]
  | succ k ih =>
    intro hk
    have h := ih (by omega)
    have hs := step_or n _ _ (bt k) h (by
      by_cases e : n &&& bt k = 0
      · exact Or.inr e
      · exact Or.inl (bit_of n k (by omega) e))
    have e : litK (lets n 13 ++ m) (k + 1) = if n &&& bt k = 0 then litK (lets n 13 ++ m) k else litK (lets n 13 ++ m) k ||| bt k := by
      have hl : (lets n 13 ++ m)[k]? = some (let' n k) := by
        rw [List.getElem?_append_left (by rw [lets_len]; omega)]
        unfold lets
        rw [List.getElem?_map, List.getElem?_range (by omega)]
        rfl
      rw [litK, hl]
      unfold let'
      by_cases e : n &&& bt k = 0
      · rw [if_pos e, if_pos e, if_neg (fun x => (sg_ne k (by omega)).1 (Option.some.inj x).symm)]
      · rw [if_neg e, if_neg e, if_pos rfl]
    rw [e]
    exact hs

theorem dg_dv (j : Nat) (h : j < 16) : dv (dg j).toNat = some j := by
  have : ∀ x : Fin 16, dv (dg x.val).toNat = some x.val := by decide
  exact this ⟨j, h⟩
theorem pu_append (a : Nat) : ∀ (l m : List UInt8), pu a (l ++ m) = match pu a l with | none => none | some b => pu b m := by
  intro l
  induction l generalizing a with
  | nil => intro m; rfl
  | cons c l ih =>
    intro m
    rw [List.cons_append, pu, pu]
    cases dv c.toNat with
    | none => rfl
    | some d =>
      simp only
      split
      · rfl
      · exact ih _ m
theorem pu_hx : ∀ (k n : Nat), n < 16 ^ (k + 1) → n < 4294967296 → pu 0 (hx k n) = some n := by
  intro k
  induction k with
  | zero =>
    intro n h1 h2
    have h3 : n < 16 := by simpa using h1
    rw [hx_small 0 n h3, pu, dg_dv n h3]
    simp only
    rw [if_neg (by omega)]
    simp [pu]
  | succ k ih =>
    intro n h1 h2
    by_cases h3 : n < 16
    · rw [hx_small _ n h3, pu, dg_dv n h3]
      simp only
      rw [if_neg (by omega)]
      simp [pu]
    · rw [hx_more k n (by omega), pu_append, ih (n / 16) (by rw [Nat.pow_succ] at h1; omega) (by omega)]
      simp only
      rw [pu, dg_dv (n % 16) (by omega)]
      simp only
      rw [if_neg (by omega), pu]
      congr 1
      omega
theorem hx_len : ∀ (k n : Nat), 0 < (hx k n).length ∧ (hx k n).length ≤ k + 1 := by
  intro k
  induction k with
  | zero => intro n; simp [hx]
  | succ k ih =>
    intro n
    unfold hx
    split
    · simp
    · have := ih (n / 16); simp; omega
theorem hx_ne43 : ∀ (k n : Nat), ∀ c ∈ hx k n, c ≠ 43 := by
  have hd : ∀ j, dg j ≠ 43 := fun j => by
    by_cases h : j < 16
    · have : ∀ x : Fin 16, dg x.val ≠ 43 := by decide
      exact this ⟨j, h⟩
    · unfold dg; rw [List.getD_eq_getElem?_getD, List.getElem?_eq_none (by simp [dgs]; omega)]; decide
  intro k
  induction k with
  | zero => intro n c hc; simp [hx] at hc; rw [hc]; exact hd _
  | succ k ih =>
    intro n c hc
    unfold hx at hc
    split at hc
    · simp at hc; rw [hc]; exact hd _
    · rcases List.mem_append.1 hc with x | x
      · exact ih _ c x
      · simp at x; rw [x]; exact hd _
end Go.Proofs.YtkilomaangdmdaaDoor
