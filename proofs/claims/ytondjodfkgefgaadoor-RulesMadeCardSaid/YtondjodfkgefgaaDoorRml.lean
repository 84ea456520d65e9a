/- RulesMade, mathematics. No program's run. -/
import Derived.Test.YtondjodfkgefgaaDoorRcl
import Derived.Test.YtondjodfkgefgaaDoorRmb
namespace Go.Proofs.YtondjodfkgefgaaDoor
open Go.RowKit
namespace Ru
/-- A directory of the user's own. -/
def Nd.own (d : Nd) (u : ByteArray) : Nd := { d with mode := d.mode ||| 2147484096, uid := u }
theorem own_cast (m : Nat) (h : m < 4294967296) : bits .or .u32 (m : Int) 2147484096 = ((m ||| 2147484096 : Nat) : Int) := or_nat m 2147484096 h (by decide)
theorem own_lt (m : Nat) (h : m < 4294967296) : m ||| 2147484096 < 4294967296 := Nat.or_lt_two_pow (n := 32) h (by decide)
theorem own_dir (d : Nd) (u : ByteArray) : dirV (d.own u) = true := by
  rw [dirV_iff]
  show (d.mode ||| 2147484096).testBit 31 = true
  rw [Nat.testBit_or, show Nat.testBit 2147484096 31 = true by decide]
  simp
theorem own_may (T : List Us.Acc) (d : Nd) (u : ByteArray) : mayV T u (d.own u) 2 = true := by
  rw [mayV_iff]
  intro i hi
  have h2 : (B8 2).getLsbD i = decide (i = 1) := by
    rw [show (2 : Int) = ((2 ^ 1 : Nat) : Int) from rfl, B8_nat, Nat.testBit_two_pow]
    by_cases h : i = 1
    · subst h; rfl
    · have : ¬ 1 = i := fun e => h e.symm
      simp [h, this]
  rw [h2] at hi
  have h1 : i = 1 := by simpa using hi
  subst h1
  refine ⟨by decide, ?_⟩
  unfold rbit
  show (decide (u = u) && (d.mode ||| 2147484096).testBit (1 + 6) || _ || _) = true
  rw [Nat.testBit_or, show Nat.testBit 2147484096 (1 + 6) = true by decide]
  simp
theorem own_make (T : List Us.Acc) (u : ByteArray) (d : Nd) (name : ByteArray) (pm mode : Int) :
    makeE T u (d.own u) false false name pm mode = if Nm.chk name = false then 50 else if permE pm ≠ 0 ∨ wantsE mode ≠ 0 then 91 else if bits .and .u32 pm 2147483648 ≠ 0 ∧ mode ≠ 0 then 92 else 0 := by
  unfold makeE
  rw [own_dir, own_may]
  simp
def keptK (pm : Int) : Int := if bits .and .u32 pm 2147483648 = 0 then 73 else 0
theorem modeInV_eq (md pm : Int) : modeInV md pm = ((B32 pm &&& ((B32 4294966784 ||| B32 (keptK pm)) ||| B32 md)).toNat : Int) := by
  unfold modeInV keptK
  rw [and32, or32, B32_toNat, or32, B32_toNat]
theorem cHigh (i : Nat) : (B32 4294966784).getLsbD i = (decide (i < 32) && decide (9 ≤ i)) := by
  rw [show (4294966784 : Int) = ((4294966784 : Nat) : Int) from rfl, B32_nat]
  by_cases h : i < 32
  · have : ∀ j : Fin 32, Nat.testBit 4294966784 j.val = decide (9 ≤ j.val) := by decide
    have := this ⟨i, h⟩
    simp only at this
    rw [this]
  · simp [h]
variable (md pm : Int)
theorem made_a : bits .andNot .u32 (bits .andNot .u32 (bits .and .u32 (modeInV md pm) 511) (keptK pm)) md = 0 := by
  rw [modeInV_eq]
  simp only [and32, andNot32, B32_toNat]
  rw [cast_zero, zero_iff]
  intro i
  simp only [BitVec.getLsbD_and, BitVec.getLsbD_or, BitVec.getLsbD_not, cHigh, c511]
  by_cases h : i < 9
  · have h2 : ¬ 9 ≤ i := by omega
    simp only [h, h2, decide_false, decide_true, Bool.and_false, Bool.false_or]
    cases (B32 pm).getLsbD i <;> cases (B32 (keptK pm)).getLsbD i <;> cases (B32 md).getLsbD i <;> cases (decide (i < 32)) <;> rfl
  · simp [h]
theorem made_b : bits .andNot .u32 (modeInV md pm) pm = 0 := by
  rw [modeInV_eq, andNot32, B32_toNat, cast_zero, zero_iff]
  intro i
  simp only [BitVec.getLsbD_and, BitVec.getLsbD_or, BitVec.getLsbD_not, cHigh]
  cases (B32 pm).getLsbD i <;> simp
theorem made_c : bits .andNot .u32 (bits .xor .u32 (modeInV md pm) pm) 511 = 0 := by
  rw [modeInV_eq, xor32, B32_toNat, andNot32, B32_toNat, cast_zero, zero_iff]
  intro i
  simp only [BitVec.getLsbD_and, BitVec.getLsbD_or, BitVec.getLsbD_xor, BitVec.getLsbD_not, cHigh, c511]
  by_cases h : i < 9
  · simp [h]
  · have h2 : 9 ≤ i := by omega
    by_cases h3 : i < 32
    · simp [h2, h3]
    · have : (B32 pm).getLsbD i = false := BitVec.getLsbD_of_ge _ _ (by omega)
      simp [this]
theorem made_d (h : bits .and .u32 pm 2147483648 = 0) : bits .and .u32 (modeInV md pm) 73 = bits .and .u32 pm 73 := by
  have hk : keptK pm = 73 := by unfold keptK; rw [if_pos h]
  rw [modeInV_eq, and32, B32_toNat, and32, hk]
  congr 2
  refine BitVec.eq_of_getLsbD_eq (fun i _ => ?_)
  simp only [BitVec.getLsbD_and, BitVec.getLsbD_or]
  cases (B32 pm).getLsbD i <;> cases (B32 73).getLsbD i <;> simp
theorem made_e (m : Nat) : bits .and .u32 (modeInV ((m ||| 2147484096 : Nat) : Int) pm) 448 = bits .and .u32 pm 448 := by
  rw [modeInV_eq, and32, B32_toNat, and32]
  congr 2
  refine BitVec.eq_of_getLsbD_eq (fun i hi => ?_)
  simp only [BitVec.getLsbD_and, BitVec.getLsbD_or]
  rw [B32_nat (m ||| 2147484096) i, Nat.testBit_or, show (448 : Int) = ((448 : Nat) : Int) from rfl, B32_nat 448 i]
  have : ∀ j : Fin 32, Nat.testBit 448 j.val = true → Nat.testBit 2147484096 j.val = true := by decide
  have := this ⟨i, hi⟩
  simp only at this
  simp only [hi, decide_true, Bool.true_and]
  cases hx : Nat.testBit 448 i with
  | false => simp
  | true => rw [this hx]; simp
end Ru
end Go.Proofs.YtondjodfkgefgaaDoor
