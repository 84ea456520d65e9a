/- rules: rights as bits. No program's run. -/
import Derived.Test.YtondjodfkgefgaaDoorRu2
namespace Go.Proofs.YtondjodfkgefgaaDoor
open Go.RowKit
namespace Ru
def B32 (x : Int) : BitVec 32 := BitVec.ofInt 32 x
def B8 (x : Int) : BitVec 8 := BitVec.ofInt 8 x
theorem wrap32_toNat (v : BitVec 32) : IntKind.u32.wrap (v.toNat : Int) = (v.toNat : Int) := by
  have := v.isLt
  simp [IntKind.wrap, IntKind.signed, IntKind.bits]
  try omega
theorem wrap8_toNat (v : BitVec 8) : IntKind.u8.wrap (v.toNat : Int) = (v.toNat : Int) := by
  have := v.isLt
  simp [IntKind.wrap, IntKind.signed, IntKind.bits]
  try omega
theorem and32 (a b : Int) : bits .and .u32 a b = ((B32 a &&& B32 b).toNat : Int) := (show bits .and .u32 a b = IntKind.u32.wrap ((B32 a &&& B32 b).toNat : Int) from rfl).trans (wrap32_toNat _)
theorem or32 (a b : Int) : bits .or .u32 a b = ((B32 a ||| B32 b).toNat : Int) := (show bits .or .u32 a b = IntKind.u32.wrap ((B32 a ||| B32 b).toNat : Int) from rfl).trans (wrap32_toNat _)
theorem xor32 (a b : Int) : bits .xor .u32 a b = ((B32 a ^^^ B32 b).toNat : Int) := (show bits .xor .u32 a b = IntKind.u32.wrap ((B32 a ^^^ B32 b).toNat : Int) from rfl).trans (wrap32_toNat _)
theorem andNot32 (a b : Int) : bits .andNot .u32 a b = ((B32 a &&& ~~~(B32 b)).toNat : Int) := (show bits .andNot .u32 a b = IntKind.u32.wrap ((B32 a &&& ~~~(B32 b)).toNat : Int) from rfl).trans (wrap32_toNat _)
theorem and8 (a b : Int) : bits .and .u8 a b = ((B8 a &&& B8 b).toNat : Int) := (show bits .and .u8 a b = IntKind.u8.wrap ((B8 a &&& B8 b).toNat : Int) from rfl).trans (wrap8_toNat _)
theorem or8 (a b : Int) : bits .or .u8 a b = ((B8 a ||| B8 b).toNat : Int) := (show bits .or .u8 a b = IntKind.u8.wrap ((B8 a ||| B8 b).toNat : Int) from rfl).trans (wrap8_toNat _)
theorem andNot8 (a b : Int) : bits .andNot .u8 a b = ((B8 a &&& ~~~(B8 b)).toNat : Int) := (show bits .andNot .u8 a b = IntKind.u8.wrap ((B8 a &&& ~~~(B8 b)).toNat : Int) from rfl).trans (wrap8_toNat _)
theorem B32_toNat (v : BitVec 32) : B32 (v.toNat : Int) = v := by unfold B32; simp
theorem B8_toNat (v : BitVec 8) : B8 (v.toNat : Int) = v := by unfold B8; simp
theorem B32_nat (n : Nat) (i : Nat) : (B32 (n : Int)).getLsbD i = (decide (i < 32) && n.testBit i) := by unfold B32; simp [BitVec.getLsbD_ofNat]
theorem B8_nat (n : Nat) (i : Nat) : (B8 (n : Int)).getLsbD i = (decide (i < 8) && n.testBit i) := by unfold B8; simp [BitVec.getLsbD_ofNat]
theorem cast_zero {k : Nat} (v : BitVec k) : ((v.toNat : Int) = 0) ↔ v = 0#k := by
  constructor
  · intro h
    apply BitVec.eq_of_toNat_eq
    simpa using h
  · intro h
    rw [h]; rfl
theorem zero_iff {k : Nat} (v : BitVec k) : v = 0#k ↔ ∀ i, v.getLsbD i = false := by
  constructor
  · intro h i
    rw [h]; simp
  · intro h
    exact BitVec.eq_of_getLsbD_eq (fun i _ => by rw [h i]; simp)
theorem or8_bit (a b : Int) (i : Nat) : (B8 (bits .or .u8 a b)).getLsbD i = ((B8 a).getLsbD i || (B8 b).getLsbD i) := by rw [or8, B8_toNat, BitVec.getLsbD_or]
theorem or32_bit (a b : Int) (i : Nat) : (B32 (bits .or .u32 a b)).getLsbD i = ((B32 a).getLsbD i || (B32 b).getLsbD i) := by rw [or32, B32_toNat, BitVec.getLsbD_or]
theorem and32_bit (a b : Int) (i : Nat) : (B32 (bits .and .u32 a b)).getLsbD i = ((B32 a).getLsbD i && (B32 b).getLsbD i) := by rw [and32, B32_toNat, BitVec.getLsbD_and]
theorem andNot32_bit (a b : Int) (i : Nat) : (B32 (bits .andNot .u32 a b)).getLsbD i = ((B32 a).getLsbD i && (decide (i < 32) && !(B32 b).getLsbD i)) := by rw [andNot32, B32_toNat, BitVec.getLsbD_and, BitVec.getLsbD_not]
theorem xor32_bit (a b : Int) (i : Nat) : (B32 (bits .xor .u32 a b)).getLsbD i = ((B32 a).getLsbD i ^^ (B32 b).getLsbD i) := by rw [xor32, B32_toNat, BitVec.getLsbD_xor]
/-- Three bits of a mode, at a place. -/
theorem part_bit (m j : Nat) (i : Nat) : (B8 (bits .and .u32 ((m : Int) / ((2 ^ j : Nat) : Int)) 7 % 256)).getLsbD i = (decide (i < 3) && (decide (i + j < 32 + j) && m.testBit (i + j))) := by
  have e1 : ((m : Int) / ((2 ^ j : Nat) : Int)) = ((m / 2 ^ j : Nat) : Int) := by simp
  rw [e1, and32]
  have e2 : B32 ((m / 2 ^ j : Nat) : Int) &&& B32 7 = BitVec.ofNat 32 (m / 2 ^ j % 8) := by
    refine BitVec.eq_of_getLsbD_eq (fun i hi => ?_)
    rw [BitVec.getLsbD_and, B32_nat, show (7 : Int) = ((7 : Nat) : Int) from rfl, B32_nat, BitVec.getLsbD_ofNat]
    rw [show (8 : Nat) = 2 ^ 3 from rfl, Nat.testBit_mod_two_pow]
    have h7 : Nat.testBit 7 i = decide (i < 3) := by
      rw [show (7 : Nat) = 2 ^ 3 - 1 from rfl, Nat.testBit_two_pow_sub_one]
    rw [h7]
    cases decide (i < 32) <;> cases decide (i < 3) <;> cases Nat.testBit (m / 2 ^ j) i <;> rfl
  rw [e2, BitVec.toNat_ofNat]
  have e3 : ((m / 2 ^ j % 8 % 2 ^ 32 : Nat) : Int) % 256 = ((m / 2 ^ j % 8 : Nat) : Int) := by omega
  rw [e3, B8_nat, show (8 : Nat) = 2 ^ 3 from rfl, Nat.testBit_mod_two_pow, Nat.testBit_div_two_pow]
  have : decide (i + j < 32 + j) = decide (i < 32) := by congr 1; simp
  rw [this]
  by_cases h : i < 3
  · have h8 : i < 2 ^ 3 := by omega
    have h32 : i < 32 := by omega
    simp [h, h8, h32, Nat.add_comm]
  · simp [h]
/-- A right of a mode: bit i. -/
def rbit (y q : Bool) (m i : Nat) : Bool := (y && m.testBit (i + 6)) || (q && m.testBit (i + 3)) || m.testBit i
theorem rOf_bit (y q : Bool) (m i : Nat) : (B8 (rOf y q m)).getLsbD i = (decide (i < 3) && rbit y q m i) := by
  have p6 := part_bit m 6 i
  have p3 := part_bit m 3 i
  have p0 := part_bit m 0 i
  simp only [Nat.reducePow, Nat.pow_zero, Int.natCast_one, Int.ediv_one, Nat.add_zero, show (((64 : Nat) : Int)) = 64 from rfl, show (((8 : Nat) : Int)) = 8 from rfl] at p6 p3 p0
  unfold rOf rbit
  have b0 : ∀ i, (B8 0).getLsbD i = false := fun i => by unfold B8; simp
  by_cases h : i < 3
  · have h2 : i < 32 := by omega
    have h4 : i + 3 < 32 + 3 := by omega
    have h5 : i + 6 < 32 + 6 := by omega
    cases y <;> cases q <;> simp only [or8_bit, p6, p3, p0, b0, h, h2, h4, h5, if_true, if_false, Bool.false_eq_true] <;> simp
  · cases y <;> cases q <;> simp only [or8_bit, p6, p3, p0, b0, h, if_true, if_false, Bool.false_eq_true] <;> simp
theorem mayV_iff (T : List Us.Acc) (u : ByteArray) (d : Nd) (x : Int) : mayV T u d x = true ↔ ∀ i, (B8 x).getLsbD i = true → i < 3 ∧ rbit (decide (u = d.uid)) (Us.member T u d.gid) d.mode i = true := by
  unfold mayV rightsV
  rw [andNot8, beq_iff_eq, cast_zero, zero_iff]
  constructor
  · intro h i hi
    have h1 := h i
    rw [BitVec.getLsbD_and, BitVec.getLsbD_not, rOf_bit, hi] at h1
    have h8 : i < 8 := by
      have := BitVec.lt_of_getLsbD hi
      exact this
    simp only [h8, decide_true, Bool.true_and, Bool.not_eq_false'] at h1
    simp at h1
    exact h1
  · intro h i
    rw [BitVec.getLsbD_and, BitVec.getLsbD_not, rOf_bit]
    cases hx : (B8 x).getLsbD i with
    | false => simp
    | true =>
      obtain ⟨h1, h2⟩ := h i hx
      simp [h1, h2]
theorem dirV_iff (d : Nd) : dirV d = d.mode.testBit 31 := by
  unfold dirV
  rw [and32]
  have hb : ∀ i, (B32 2147483648).getLsbD i = decide (i = 31) := fun i => by
    rw [show (2147483648 : Int) = ((2 ^ 31 : Nat) : Int) from rfl, B32_nat, Nat.testBit_two_pow]
    by_cases h : i = 31
    · subst h; rfl
    · simp [h]; omega
  cases hd : d.mode.testBit 31 with
  | false =>
    have : B32 (d.mode : Int) &&& B32 2147483648 = 0#32 := (zero_iff _).2 (fun i => by
      rw [BitVec.getLsbD_and, hb, B32_nat]
      by_cases h : i = 31
      · subst h; simp [hd]
      · simp [h])
    rw [this]; rfl
  | true =>
    simp only [bne_iff_ne, ne_eq]
    intro h
    rw [cast_zero, zero_iff] at h
    have := h 31
    rw [BitVec.getLsbD_and, hb, B32_nat, hd] at this
    simp at this
end Ru
end Go.Proofs.YtondjodfkgefgaaDoor
