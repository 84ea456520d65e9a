/- Permissions: which bits are none, as numbers. -/
import Derived.Test.YtihkldcdikbinaaNsm
namespace Go.Proofs.Ytihkldcdikbinaa
open Go.RowKit
namespace Nd
theorem bv_perm (x : BitVec 32) : x &&& ~~~(511#32) = 0#32 ↔ x.toNat ≤ 511 := by
  constructor
  · intro h
    have h2 : x.toNat < 2 ^ 9 := by
      refine Nat.lt_pow_two_of_testBit _ (fun i hi => ?_)
      have h3 : (x &&& ~~~(511#32)).getLsbD i = false := by rw [h]; simp
      rw [BitVec.getLsbD_and, BitVec.getLsbD_not] at h3
      have h4 : (511#32 : BitVec 32).getLsbD i = false := by
        rw [BitVec.getLsbD_ofNat]
        have : Nat.testBit 511 i = false := Nat.testBit_lt_two_pow (Nat.lt_of_lt_of_le (by decide : 511 < 2 ^ 9) (Nat.pow_le_pow_right (by decide) hi))
        simp [this]
      by_cases hi2 : i < 32
      · rw [h4] at h3
        simp only [hi2, decide_true, Bool.not_false, Bool.and_self, Bool.and_true] at h3
        exact h3
      · exact Nat.testBit_lt_two_pow (Nat.lt_of_lt_of_le x.isLt (Nat.pow_le_pow_right (by decide) (by omega)))
    omega
  · intro h
    refine BitVec.eq_of_getLsbD_eq (fun i hi => ?_)
    rw [BitVec.getLsbD_and, BitVec.getLsbD_not]
    by_cases h9 : i < 9
    · have : (511#32 : BitVec 32).getLsbD i = true := by
        rcases (by omega : i = 0 ∨ i = 1 ∨ i = 2 ∨ i = 3 ∨ i = 4 ∨ i = 5 ∨ i = 6 ∨ i = 7 ∨ i = 8) with rfl | rfl | rfl | rfl | rfl | rfl | rfl | rfl | rfl <;> decide
      simp [this]
    · have : x.getLsbD i = false := Nat.testBit_lt_two_pow (Nat.lt_of_lt_of_le (by omega : x.toNat < 2 ^ 9) (Nat.pow_le_pow_right (by decide) (by omega)))
      simp [this]
theorem perm_bits (n : Nat) (h : n < 4294967296) : bits .andNot .u32 (n : Int) 511 = 0 ↔ n ≤ 511 := by
  have e1 : BitVec.ofInt 32 (n : Int) = BitVec.ofNat 32 n := by simp
  have e2 : (BitVec.ofNat 32 n).toNat = n := by rw [BitVec.toNat_ofNat]; exact Nat.mod_eq_of_lt h
  have e3 := bv_perm (BitVec.ofNat 32 n)
  rw [e2] at e3
  rw [← e3]
  have e4 : bits .andNot .u32 (n : Int) 511 = IntKind.u32.wrap ((BitVec.ofNat 32 n &&& ~~~(511#32)).toNat : Int) := by
    rw [← e1]; rfl
  rw [e4]
  have lt := (BitVec.ofNat 32 n &&& ~~~(511#32)).isLt
  generalize BitVec.ofNat 32 n &&& ~~~(511#32) = y at lt ⊢
  have e5 : IntKind.u32.wrap (y.toNat : Int) = (y.toNat : Int) := by
    simp [IntKind.wrap, IntKind.signed, IntKind.bits]
    try omega
  rw [e5]
  constructor
  · intro h
    apply BitVec.eq_of_toNat_eq
    simpa using h
  · intro h
    rw [h]; rfl
theorem or_nat (n : Nat) : ∃ md : Nat, bits .or .u32 2147483648 (n : Int) = (md : Int) := by
  have e : bits .or .u32 2147483648 (n : Int) = IntKind.u32.wrap ((BitVec.ofInt 32 2147483648 ||| BitVec.ofInt 32 (n : Int)).toNat : Int) := rfl
  have lt := (BitVec.ofInt 32 2147483648 ||| BitVec.ofInt 32 (n : Int)).isLt
  rw [e]
  generalize (BitVec.ofInt 32 2147483648 ||| BitVec.ofInt 32 (n : Int)) = y at lt ⊢
  refine ⟨y.toNat, ?_⟩
  simp [IntKind.wrap, IntKind.signed, IntKind.bits]
  try omega
end Nd
end Go.Proofs.Ytihkldcdikbinaa
