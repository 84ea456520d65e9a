/- rules: what a change comes to: plain facts. -/
import Derived.Test.YteeheapenfklcaaGreatDoorRwf
import Derived.Test.YteeheapenfklcaaGreatDoorRtc
import Derived.Test.YteeheapenfklcaaGreatDoorRqr
namespace Go.Proofs.YteeheapenfklcaaGreatDoor
set_option linter.unusedVariables false
open Go.RowKit Go.Shelf
theorem tb_bit (f : Nat → Bool) : ∀ n j, (tb f n).testBit j = (decide (j < n) && f j)
  | 0, j => by simp [tb]
  | n + 1, j => by
    have ih := tb_bit f n j
    have hlt := tb_lt f n
    cases hf : f n with
    | false =>
      rw [tb_off hf, ih]
      by_cases h : j = n
      · subst h; simp [hf]
      · have e : decide (j < n + 1) = decide (j < n) := by congr 1; exact propext (by omega)
        rw [e]
    | true =>
      rw [tb_on hf]
      have e : tb f n + 2 ^ n = 2 ^ n * 1 ||| tb f n := by rw [← Nat.two_pow_add_eq_or_of_lt hlt]; omega
      rw [e, Nat.mul_one, Nat.testBit_or, ih, Nat.testBit_two_pow]
      by_cases h : j = n
      · subst h; simp [hf]
      · have e1 : decide (n = j) = false := decide_eq_false (fun e => h e.symm)
        have e : decide (j < n + 1) = decide (j < n) := by congr 1; exact propext (by omega)
        rw [e, e1, Bool.false_or]
theorem and_tb (f : Nat → Bool) (m : Nat) (hm : m < 65536) : bits .and .u16 ((tb f 13 : Nat) : Int) (m : Int) = ((tb f 13 &&& m : Nat) : Int) := by
  have hlt : tb f 13 < 8192 := tb_lt f 13
  have a1 : (BitVec.ofInt 16 ((tb f 13 : Nat) : Int)).toNat = tb f 13 := by
    rw [BitVec.ofInt_natCast, BitVec.toNat_ofNat]; exact Nat.mod_eq_of_lt (by omega)
  have a2 : (BitVec.ofInt 16 ((m : Nat) : Int)).toNat = m := by
    rw [BitVec.ofInt_natCast, BitVec.toNat_ofNat]; exact Nat.mod_eq_of_lt hm
  show IntKind.u16.wrap ((BitVec.ofInt 16 ((tb f 13 : Nat) : Int) &&& BitVec.ofInt 16 ((m : Nat) : Int)).toNat : Int) = _
  have hle : tb f 13 &&& m ≤ m := Nat.and_le_right
  rw [BitVec.toNat_and, a1, a2, IntKind.wrap_u16]
  omega
theorem and_bit (f : Nat → Bool) (k : Nat) (hk : k < 13) : bits .and .u16 ((tb f 13 : Nat) : Int) ((2 ^ k : Nat) : Int) = ((if f k then 2 ^ k else 0 : Nat) : Int) := by
  have h1 : (2 : Nat) ^ k < 65536 := Nat.pow_lt_pow_right (by decide) (by omega : k < 16)
  have e : tb f 13 &&& 2 ^ k = if f k then 2 ^ k else 0 := by
    apply Nat.eq_of_testBit_eq
    intro i
    rw [Nat.testBit_and, tb_bit, Nat.testBit_two_pow]
    by_cases h : k = i
    · subst h
      rw [decide_eq_true hk]
      cases f k <;> simp
    · have e1 : decide (k = i) = false := decide_eq_false h
      rw [e1, Bool.and_false]
      cases f k
      · simp
      · rw [if_pos rfl, Nat.testBit_two_pow, e1]
  rw [and_tb f _ h1, e]
/-- The first five fields at once. -/
theorem and_five (f : Nat → Bool) : (bits .and .u16 ((tb f 13 : Nat) : Int) 31 = 0) = (f 0 = false ∧ f 1 = false ∧ f 2 = false ∧ f 3 = false ∧ f 4 = false) := by
  have e := and_tb f 31 (by decide)
  have e' : bits .and .u16 ((tb f 13 : Nat) : Int) 31 = ((tb f 13 &&& 31 : Nat) : Int) := e
  rw [e']
  have b : ∀ i, (tb f 13 &&& 31).testBit i = (decide (i < 5) && f i) := fun i => by
    have h31 : (31 : Nat) = 2 ^ 5 - 1 := rfl
    rw [Nat.testBit_and, tb_bit, h31, Nat.testBit_two_pow_sub_one]
    by_cases h : i < 5
    · have : i < 13 := by omega
      simp [h, this]
    · simp [h]
  refine propext ⟨fun h => ?_, fun ⟨h0, h1, h2, h3, h4⟩ => ?_⟩
  · have hz : tb f 13 &&& 31 = 0 := by omega
    have g : ∀ i, i < 5 → f i = false := fun i hi => by
      have := b i
      rw [hz, Nat.zero_testBit, decide_eq_true hi, Bool.true_and] at this
      exact this.symm
    exact ⟨g 0 (by omega), g 1 (by omega), g 2 (by omega), g 3 (by omega), g 4 (by omega)⟩
  · have : tb f 13 &&& 31 = 0 := by
      apply Nat.eq_of_testBit_eq
      intro i
      rw [b, Nat.zero_testBit]
      by_cases h : i < 5
      · rcases (by omega : i = 0 ∨ i = 1 ∨ i = 2 ∨ i = 3 ∨ i = 4) with rfl | rfl | rfl | rfl | rfl <;> simp [h0, h1, h2, h3, h4]
      · simp [h]
    rw [this]; rfl
namespace Ru
open Go.Proofs.YteeheapenfklcaaGreatDoor.Utf Go.Proofs.YteeheapenfklcaaGreatDoor.Txt Go.PlainAid Go.Proofs.YteeheapenfklcaaGreatDoor.Mpf Go.Proofs.YteeheapenfklcaaGreatDoor.Us
/-- A node's record. -/
def recR (d : Nd) : Rec := ⟨0, 0, d.mode / 16777216, d.vers, d.path, d.mode, d.atime, d.mtime, if dirV d = true then 0 else d.length, d.name, d.uid, d.gid, d.muid⟩
theorem recR_cells (d : Nd) : recV d = (recR d).cells := by
  unfold recV recR Rec.cells recLen
  cases h : dirV d <;> simp
def Wn.rc (s : Wn) : Rec := ⟨s.ty, s.dev, s.kd, s.vr, s.pa, s.mo, s.atm, s.mt, s.ln, s.nm, s.ud, s.gd, s.mu⟩
/-- Is a field touched? -/
def tkn (s : Wn) (n : Nd) : Nat → Bool := tk s.rc (recR n)
/-- Why the k-th field may not be changed. -/
def whyNot (T : List Acc) (u : ByteArray) (n p : Nd) (tk : Bool) (s : Wn) : Nat → Int
  | 5 => rMode T u n s.mo
  | 7 => rMtime T u n
  | 8 => rLength T u n s.ln
  | 9 => rName T u n p tk s.nm
  | 11 => rGid T u n s.gd
  | _ => 97
def setK (s : Wn) : Nat → Nd → Nd
  | 5, x => { x with mode := s.mo }
  | 7, x => { x with mtime := s.mt }
  | 8, x => { x with length := s.ln }
  | 9, x => { x with name := s.nm }
  | 11, x => { x with gid := s.gd }
  | _, x => x
def firstE (r : Nat → Int) (t : Nat → Bool) : Nat → Int
  | 0 => 0
  | k + 1 => if firstE r t k ≠ 0 then firstE r t k else if t k = true then r k else 0
def setN (f : Nat → Nd → Nd) (t : Nat → Bool) (x : Nd) : Nat → Nd
  | 0 => x
  | k + 1 => if t k = true then f k (setN f t x k) else setN f t x k
theorem firstE_on {r : Nat → Int} {t : Nat → Bool} {k : Nat} (h : firstE r t k = 0) (ht : t k = true) : firstE r t (k + 1) = r k := by simp [firstE, h, ht]
theorem firstE_off {r : Nat → Int} {t : Nat → Bool} {k : Nat} (h : firstE r t k = 0) (ht : t k = false) : firstE r t (k + 1) = 0 := by simp [firstE, h, ht]
theorem firstE_bad {r : Nat → Int} {t : Nat → Bool} {k : Nat} (h : firstE r t k ≠ 0) : ∀ j, firstE r t (k + j) = firstE r t k
  | 0 => rfl
  | j + 1 => by
    have ih := firstE_bad h j
    show firstE r t (k + j + 1) = _
    simp only [firstE, ih]
    rw [if_pos h]
theorem firstE_at {r : Nat → Int} {t : Nat → Bool} {k : Nat} (h : firstE r t k = 0) (ht : t k = true) (hr : r k ≠ 0) (hk : k < 13) : firstE r t 13 = r k := by
  have h1 := firstE_on h ht
  have := firstE_bad (r := r) (t := t) (k := k + 1) (by rw [h1]; exact hr) (12 - k)
  rw [h1, show k + 1 + (12 - k) = 13 by omega] at this
  exact this
theorem setN_on {f : Nat → Nd → Nd} {t : Nat → Bool} {x : Nd} {k : Nat} (ht : t k = true) : setN f t x (k + 1) = f k (setN f t x k) := by simp [setN, ht]
theorem setN_off {f : Nat → Nd → Nd} {t : Nat → Bool} {x : Nd} {k : Nat} (ht : t k = false) : setN f t x (k + 1) = setN f t x k := by simp [setN, ht]
def noNode : Nd := ⟨0, 0, ⟨#[]⟩, 0, ⟨#[]⟩, ⟨#[]⟩, ⟨#[]⟩, 0, 0, 0, 0, 0, 0⟩
/-- Why a change may not be. -/
def wstE (T : List Acc) (u : ByteArray) (n p : Nd) (tk : Bool) (s : Wn) : Int := firstE (whyNot T u n p tk s) (tkn s n) 13
/-- The node behind it. -/
def wstN (T : List Acc) (u : ByteArray) (n p : Nd) (tk : Bool) (s : Wn) : Nd := if wstE T u n p tk s = 0 then setN (setK s) (tkn s n) n 13 else noNode
def wstA (x : Nd) : Array Value := #[.int .u64 x.path, .int .u64 x.parent, .string x.name, .int .u32 x.mode, .string x.uid, .string x.gid, .string x.muid, .int .u32 x.atime, .int .u32 x.mtime, .int .u32 x.vers, .int .u64 x.length, .int .i64 x.opens, .int .i64 x.kids]
end Ru
end Go.Proofs.YteeheapenfklcaaGreatDoor
