/- rules: what the classes give, mathematics. No program's run. -/
import Derived.Test.YtondjodfkgefgaaDoorRbt
import Derived.Test.YtondjodfkgefgaaDoorRcs
namespace Go.Proofs.YtondjodfkgefgaaDoor
set_option linter.unusedVariables false
open Go.RowKit
namespace Ru
/-- The rights of the classes together. -/
def rN (y q : Bool) (m : Nat) : Nat := ((m % 8) ||| (if y = true then m / 64 % 8 else 0)) ||| (if q = true then m / 8 % 8 else 0)
theorem b8 (m j i : Nat) : (m / 2 ^ j % 8).testBit i = (decide (i < 3) && m.testBit (i + j)) := by
  rw [show (8 : Nat) = 2 ^ 3 from rfl, Nat.testBit_mod_two_pow, Nat.testBit_div_two_pow]
theorem rN_bit (y q : Bool) (m i : Nat) : (rN y q m).testBit i = (decide (i < 3) && rbit y q m i) := by
  have h6 := b8 m 6 i
  have h3 := b8 m 3 i
  have h0 := b8 m 0 i
  simp only [Nat.reducePow, Nat.pow_zero, Nat.div_one, Nat.add_zero] at h6 h3 h0
  unfold rN rbit
  rw [Nat.testBit_or, Nat.testBit_or, h0]
  cases y <;> cases q <;> simp [h6, h3] <;> cases decide (i < 3) <;> simp [Bool.or_comm, Bool.or_left_comm]
theorem rN_le (y q : Bool) (m : Nat) : rN y q m ≤ 7 := by
  have : rN y q m < 2 ^ 3 := Nat.lt_pow_two_of_testBit _ (fun i hi => by
    rw [rN_bit]
    have : ¬ i < 3 := by omega
    simp [this])
  omega
theorem rOf_nat (y q : Bool) (m : Nat) : rOf y q m = (rN y q m : Int) := by
  have e : ∃ v : BitVec 8, rOf y q m = (v.toNat : Int) := ⟨_, by unfold rOf; exact or8 _ _⟩
  obtain ⟨v, hv⟩ := e
  rw [hv]
  congr 1
  refine Nat.eq_of_testBit_eq (fun i => ?_)
  have h := rOf_bit y q m i
  rw [hv, B8_toNat] at h
  rw [BitVec.testBit_toNat, h, rN_bit]
theorem and_nat (a b : Nat) (ha : a < 4294967296) (hb : b < 4294967296) : bits .and .u32 (a : Int) (b : Int) = ((a &&& b : Nat) : Int) := by
  rw [and32, BitVec.toNat_and]
  congr 1
  unfold B32
  simp
  rw [Nat.mod_eq_of_lt ha, Nat.mod_eq_of_lt hb]
theorem or_nat (a b : Nat) (ha : a < 4294967296) (hb : b < 4294967296) : bits .or .u32 (a : Int) (b : Int) = ((a ||| b : Nat) : Int) := by
  rw [or32, BitVec.toNat_or]
  congr 1
  unfold B32
  simp
  rw [Nat.mod_eq_of_lt ha, Nat.mod_eq_of_lt hb]
/-- What a user may, as a number. -/
def ownN (T : List Us.Acc) (u : ByteArray) (d : Nd) : Nat := rN (decide (u = d.uid)) (Us.member T u d.gid) d.mode
theorem rightsV_nat (T : List Us.Acc) (u : ByteArray) (d : Nd) : rightsV T u d = (ownN T u d : Int) := rOf_nat _ _ _
theorem ownN_le (T : List Us.Acc) (u : ByteArray) (d : Nd) : ownN T u d ≤ 7 := rN_le _ _ _
theorem may_bits (T : List Us.Acc) (u : ByteArray) (d : Nd) (x : Nat) (hx : x ≤ 7) : mayV T u d (x : Int) = true ↔ ownN T u d &&& x = x := by
  rw [mayV_iff]
  constructor
  · intro h
    refine Nat.eq_of_testBit_eq (fun i => ?_)
    rw [Nat.testBit_and]
    cases hxi : x.testBit i with
    | false => simp
    | true =>
      have hlt : i < 8 := by
        refine Classical.byContradiction (fun hn => ?_)
        have : x < 2 ^ i := Nat.lt_of_lt_of_le (by omega : x < 2 ^ 3) (Nat.pow_le_pow_right (by decide) (by omega))
        rw [Nat.testBit_lt_two_pow this] at hxi
        cases hxi
      obtain ⟨h1, h2⟩ := h i (by rw [B8_nat, hxi]; simp [hlt])
      unfold ownN
      rw [rN_bit, h2]
      simp [h1]
  · intro h i hi
    rw [B8_nat] at hi
    simp only [Bool.and_eq_true, decide_eq_true_eq] at hi
    have h2 : (ownN T u d &&& x).testBit i = true := by rw [h]; exact hi.2
    rw [Nat.testBit_and] at h2
    simp only [Bool.and_eq_true] at h2
    unfold ownN at h2
    rw [rN_bit] at h2
    simpa using h2.1
theorem may_and (T : List Us.Acc) (u : ByteArray) (d : Nd) (x : Nat) (hx : x ≤ 7) : mayV T u d (x : Int) = true ↔ bits .and .u32 (ownN T u d : Int) (x : Int) = (x : Int) := by
  have := ownN_le T u d
  rw [may_bits T u d x hx, and_nat _ _ (by omega) (by omega)]
  constructor
  · intro h; rw [h]
  · intro h; exact_mod_cast h
theorem and_le (a x : Nat) : a &&& x ≤ x := Nat.and_le_right
theorem may_two (T : List Us.Acc) (u : ByteArray) (d : Nd) : mayV T u d 2 = true ↔ bits .and .u32 (ownN T u d : Int) 2 ≠ 0 := by
  have h := may_and T u d 2 (by decide)
  rw [show ((2 : Nat) : Int) = 2 from rfl] at h
  rw [h]
  have := ownN_le T u d
  have e : bits .and .u32 (ownN T u d : Int) 2 = ((ownN T u d &&& 2 : Nat) : Int) := and_nat _ 2 (by omega) (by decide)
  rw [e]
  have : ∀ k : Fin 8, (k.1 &&& 2 : Nat) = 2 ∨ (k.1 &&& 2 : Nat) = 0 := by decide
  rcases this ⟨ownN T u d, by omega⟩ with h | h <;> simp only [] at h <;> rw [h] <;> decide
theorem may_one (T : List Us.Acc) (u : ByteArray) (d : Nd) : mayV T u d 1 = true ↔ bits .and .u32 (ownN T u d : Int) 1 ≠ 0 := by
  have h := may_and T u d 1 (by decide)
  rw [show ((1 : Nat) : Int) = 1 from rfl] at h
  rw [h]
  have := ownN_le T u d
  have e : bits .and .u32 (ownN T u d : Int) 1 = ((ownN T u d &&& 1 : Nat) : Int) := and_nat _ 1 (by omega) (by decide)
  rw [e]
  have : ∀ k : Fin 8, (k.1 &&& 1 : Nat) = 1 ∨ (k.1 &&& 1 : Nat) = 0 := by decide
  rcases this ⟨ownN T u d, by omega⟩ with h | h <;> simp only [] at h <;> rw [h] <;> decide
theorem wantsV_nat (mode : Int) : ∃ k : Nat, wantsV mode = (k : Int) ∧ k ≤ 7 ∧ (wantsE mode = 0 → 0 < k) := by
  unfold wantsV wantsE
  by_cases h : bits .andNot .u8 mode 83 = 0
  · rw [if_pos h, if_pos h]
    have hw : ∀ c, wantsOfV c = 4 ∨ wantsOfV c = 2 ∨ wantsOfV c = 6 ∨ wantsOfV c = 1 := fun c => by
      unfold wantsOfV
      split
      · exact Or.inl rfl
      · split
        · exact Or.inr (Or.inl rfl)
        · split
          · exact Or.inr (Or.inr (Or.inl rfl))
          · exact Or.inr (Or.inr (Or.inr rfl))
    split
    · rcases hw (bits .and .u8 mode 3) with e | e | e | e <;> rw [e]
      · exact ⟨4, rfl, by decide, fun _ => by decide⟩
      · exact ⟨2, rfl, by decide, fun _ => by decide⟩
      · exact ⟨6, rfl, by decide, fun _ => by decide⟩
      · exact ⟨1, rfl, by decide, fun _ => by decide⟩
    · rcases hw (bits .and .u8 mode 3) with e | e | e | e <;> rw [e]
      · exact ⟨6, by decide, by decide, fun _ => by decide⟩
      · exact ⟨2, by decide, by decide, fun _ => by decide⟩
      · exact ⟨6, by decide, by decide, fun _ => by decide⟩
      · exact ⟨3, by decide, by decide, fun _ => by decide⟩
  · rw [if_neg h, if_neg h]
    exact ⟨0, rfl, by decide, fun h => by cases h⟩
theorem open_ok {T : List Us.Acc} {u : ByteArray} {n p : Nd} {mode : Int} (h : openE T u n p mode = 0) : wantsE mode = 0 ∧ (dirV n = true → mode = 0) ∧ mayV T u n (wantsV mode) = true ∧ (bits .and .u8 mode 64 ≠ 0 → mayV T u p 2 = true) := by
  unfold openE at h
  by_cases h1 : wantsE mode = 0
  · rw [if_pos h1] at h
    by_cases h2 : dirV n = true ∧ mode ≠ 0
    · rw [if_pos h2] at h; cases h
    rw [if_neg h2] at h
    by_cases h3 : mayV T u n (wantsV mode) = false
    · rw [if_pos h3] at h; cases h
    rw [if_neg h3] at h
    by_cases h4 : bits .and .u8 mode 64 ≠ 0 ∧ mayV T u p 2 = false
    · rw [if_pos h4] at h; cases h
    refine ⟨h1, fun hd => Classical.byContradiction (fun hm => h2 ⟨hd, hm⟩), by simpa using h3, fun hb => ?_⟩
    cases hp : mayV T u p 2 with
    | true => rfl
    | false => exact absurd ⟨hb, hp⟩ h4
  · rw [if_neg h1] at h
    exact absurd h h1
theorem make_ok {T : List Us.Acc} {u : ByteArray} {n : Nd} {tk fl : Bool} {name : ByteArray} {pm mode : Int} (h : makeE T u n tk fl name pm mode = 0) :
    dirV n = true ∧ Nm.chk name = true ∧ permE pm = 0 ∧ wantsE mode = 0 ∧ ¬ (bits .and .u32 pm 2147483648 ≠ 0 ∧ mode ≠ 0) ∧ mayV T u n 2 = true ∧ tk = false ∧ fl = false := by
  unfold makeE at h
  by_cases h1 : dirV n = false
  · rw [if_pos h1] at h; cases h
  rw [if_neg h1] at h
  by_cases h2 : Nm.chk name = false
  · rw [if_pos h2] at h; cases h
  rw [if_neg h2] at h
  by_cases h3 : permE pm ≠ 0 ∨ wantsE mode ≠ 0
  · rw [if_pos h3] at h; cases h
  rw [if_neg h3] at h
  by_cases h4 : bits .and .u32 pm 2147483648 ≠ 0 ∧ mode ≠ 0
  · rw [if_pos h4] at h; cases h
  rw [if_neg h4] at h
  by_cases h5 : mayV T u n 2 = false
  · rw [if_pos h5] at h; cases h
  rw [if_neg h5] at h
  cases tk with
  | true => simp at h
  | false =>
    cases fl with
    | true => simp at h
    | false =>
      have a : permE pm = 0 := Classical.byContradiction (fun hn => h3 (Or.inl hn))
      have b : wantsE mode = 0 := Classical.byContradiction (fun hn => h3 (Or.inr hn))
      exact ⟨by simpa using h1, by simpa using h2, a, b, h4, by simpa using h5, rfl, rfl⟩
theorem remove_ok {T : List Us.Acc} {u : ByteArray} {n p : Nd} (h : removeE T u n p = 0) : ((n.path : Int) == 1) = false ∧ mayV T u p 2 = true := by
  unfold removeE at h
  by_cases h1 : ((n.path : Int) == 1) = true ∨ mayV T u p 2 = false
  · rw [if_pos h1] at h; cases h
  · exact ⟨by cases hp : ((n.path : Int) == 1) with
      | true => exact absurd (Or.inl hp) h1
      | false => rfl, by cases hp : mayV T u p 2 with
      | false => exact absurd (Or.inr hp) h1
      | true => rfl⟩
theorem step_iff (T : List Us.Acc) (u : ByteArray) (n : Nd) : stepE T u n = 0 ↔ mayV T u n 1 = true ∧ dirV n = true := by
  unfold stepE
  cases dirV n <;> cases mayV T u n 1 <;> simp
end Ru
end Go.Proofs.YtondjodfkgefgaaDoor
