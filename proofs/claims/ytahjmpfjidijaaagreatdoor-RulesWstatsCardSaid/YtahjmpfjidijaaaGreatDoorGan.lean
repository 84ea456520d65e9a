/- rules: rights as bits. No program's run. rules: what the classes give, mathematics. No program's run. rules: more rights, mathematics. No program's run. rules: Create, whatever comes of it. -/
import Derived.Test.YtahjmpfjidijaaaGreatDoorGai
import Derived.Test.YtahjmpfjidijaaaGreatDoorGao
section
namespace Go.Proofs.YtahjmpfjidijaaaGreatDoor
open Go.RowKit
namespace Ru
def B32 (x : Int) : BitVec 32 := BitVec.ofInt 32 x
def B8 (x : Int) : BitVec 8 := BitVec.ofInt 8 x
theorem wrap32_toNat (v : BitVec 32) : IntKind.u32.wrap (v.toNat : Int) = (v.toNat : Int) := by
  have := v.isLt
  simp [IntKind.wrap, IntKind.signed, IntKind.bits]
  try omega
theorem wrap8_toNat (v : BitVec 8) : IntKind.u8.wrap (v.toNat : Int) = (v.toNat : Int) := by
  have := v.isLt
  simp [IntKind.wrap, IntKind.signed, IntKind.bits]
  try omega
theorem and32 (a b : Int) : bits .and .u32 a b = ((B32 a &&& B32 b).toNat : Int) := (show bits .and .u32 a b = IntKind.u32.wrap ((B32 a &&& B32 b).toNat : Int) from rfl).trans (wrap32_toNat _)
theorem or32 (a b : Int) : bits .or .u32 a b = ((B32 a ||| B32 b).toNat : Int) := (show bits .or .u32 a b = IntKind.u32.wrap ((B32 a ||| B32 b).toNat : Int) from rfl).trans (wrap32_toNat _)
theorem xor32 (a b : Int) : bits .xor .u32 a b = ((B32 a ^^^ B32 b).toNat : Int) := (show bits .xor .u32 a b = IntKind.u32.wrap ((B32 a ^^^ B32 b).toNat : Int) from rfl).trans (wrap32_toNat _)
theorem andNot32 (a b : Int) : bits .andNot .u32 a b = ((B32 a &&& ~~~(B32 b)).toNat : Int) := (show bits .andNot .u32 a b = IntKind.u32.wrap ((B32 a &&& ~~~(B32 b)).toNat : Int) from rfl).trans (wrap32_toNat _)
theorem and8 (a b : Int) : bits .and .u8 a b = ((B8 a &&& B8 b).toNat : Int) := (show bits .and .u8 a b = IntKind.u8.wrap ((B8 a &&& B8 b).toNat : Int) from rfl).trans (wrap8_toNat _)
theorem or8 (a b : Int) : bits .or .u8 a b = ((B8 a ||| B8 b).toNat : Int) := (show bits .or .u8 a b = IntKind.u8.wrap ((B8 a ||| B8 b).toNat : Int) from rfl).trans (wrap8_toNat _)
theorem andNot8 (a b : Int) : bits .andNot .u8 a b = ((B8 a &&& ~~~(B8 b)).toNat : Int) := (show bits .andNot .u8 a b = IntKind.u8.wrap ((B8 a &&& ~~~(B8 b)).toNat : Int) from rfl).trans (wrap8_toNat _)
theorem B32_toNat (v : BitVec 32) : B32 (v.toNat : Int) = v := by unfold B32; simp
theorem B8_toNat (v : BitVec 8) : B8 (v.toNat : Int) = v := by unfold B8; simp
theorem B32_nat (n : Nat) (i : Nat) : (B32 (n : Int)).getLsbD i = (decide (i < 32) && n.testBit i) := by unfold B32; simp [BitVec.getLsbD_ofNat]
theorem B8_nat (n : Nat) (i : Nat) : (B8 (n : Int)).getLsbD i = (decide (i < 8) && n.testBit i) := by unfold B8; simp [BitVec.getLsbD_ofNat]
theorem cast_zero {k : Nat} (v : BitVec k) : ((v.toNat : Int) = 0) ↔ v = 0#k := by
  constructor
  · intro h
    apply BitVec.eq_of_toNat_eq
    simpa using h
  · intro h
    rw [h]; rfl
theorem zero_iff {k : Nat} (v : BitVec k) : v = 0#k ↔ ∀ i, v.getLsbD i = false := by
  constructor
  · intro h i
    rw [h]; simp
  · intro h
    exact BitVec.eq_of_getLsbD_eq (fun i _ => by rw [h i]; simp)
theorem or8_bit (a b : Int) (i : Nat) : (B8 (bits .or .u8 a b)).getLsbD i = ((B8 a).getLsbD i || (B8 b).getLsbD i) := by rw [or8, B8_toNat, BitVec.getLsbD_or]
theorem or32_bit (a b : Int) (i : Nat) : (B32 (bits .or .u32 a b)).getLsbD i = ((B32 a).getLsbD i || (B32 b).getLsbD i) := by rw [or32, B32_toNat, BitVec.getLsbD_or]
theorem and32_bit (a b : Int) (i : Nat) : (B32 (bits .and .u32 a b)).getLsbD i = ((B32 a).getLsbD i && (B32 b).getLsbD i) := by rw [and32, B32_toNat, BitVec.getLsbD_and]
theorem andNot32_bit (a b : Int) (i : Nat) : (B32 (bits .andNot .u32 a b)).getLsbD i = ((B32 a).getLsbD i && (decide (i < 32) && !(B32 b).getLsbD i)) := by rw [andNot32, B32_toNat, BitVec.getLsbD_and, BitVec.getLsbD_not]
theorem xor32_bit (a b : Int) (i : Nat) : (B32 (bits .xor .u32 a b)).getLsbD i = ((B32 a).getLsbD i ^^ (B32 b).getLsbD i) := by rw [xor32, B32_toNat, BitVec.getLsbD_xor]
/-- Three bits of a mode, at a place. -/
theorem part_bit (m j : Nat) (i : Nat) : (B8 (bits .and .u32 ((m : Int) / ((2 ^ j : Nat) : Int)) 7 % 256)).getLsbD i = (decide (i < 3) && (decide (i + j < 32 + j) && m.testBit (i + j))) := by
  have e1 : ((m : Int) / ((2 ^ j : Nat) : Int)) = ((m / 2 ^ j : Nat) : Int) := by simp
  rw [e1, and32]
  have e2 : B32 ((m / 2 ^ j : Nat) : Int) &&& B32 7 = BitVec.ofNat 32 (m / 2 ^ j % 8) := by
    refine BitVec.eq_of_getLsbD_eq (fun i hi => ?_)
    rw [BitVec.getLsbD_and, B32_nat, show (7 : Int) = ((7 : Nat) : Int) from rfl, B32_nat, BitVec.getLsbD_ofNat]
    rw [show (8 : Nat) = 2 ^ 3 from rfl, Nat.testBit_mod_two_pow]
    have h7 : Nat.testBit 7 i = decide (i < 3) := by
      rw [show (7 : Nat) = 2 ^ 3 - 1 from rfl, Nat.testBit_two_pow_sub_one]
    rw [h7]
    cases decide (i < 32) <;> cases decide (i < 3) <;> cases Nat.testBit (m / 2 ^ j) i <;> rfl
  rw [e2, BitVec.toNat_ofNat]
  have e3 : ((m / 2 ^ j % 8 % 2 ^ 32 : Nat) : Int) % 256 = ((m / 2 ^ j % 8 : Nat) : Int) := by omega
  rw [e3, B8_nat, show (8 : Nat) = 2 ^ 3 from rfl, Nat.testBit_mod_two_pow, Nat.testBit_div_two_pow]
  have : decide (i + j < 32 + j) = decide (i < 32) := by congr 1; simp
  rw [this]
  by_cases h : i < 3
  · have h8 : i < 2 ^ 3 := by omega
    have h32 : i < 32 := by omega
    simp [h, h8, h32, Nat.add_comm]
  · simp [h]
/-- A right of a mode: bit i. -/
def rbit (y q : Bool) (m i : Nat) : Bool := (y && m.testBit (i + 6)) || (q && m.testBit (i + 3)) || m.testBit i
theorem rOf_bit (y q : Bool) (m i : Nat) : (B8 (rOf y q m)).getLsbD i = (decide (i < 3) && rbit y q m i) := by
  have p6 := part_bit m 6 i
  have p3 := part_bit m 3 i
  have p0 := part_bit m 0 i
  simp only [Nat.reducePow, Nat.pow_zero, Int.natCast_one, Int.ediv_one, Nat.add_zero, show (((64 : Nat) : Int)) = 64 from rfl, show (((8 : Nat) : Int)) = 8 from rfl] at p6 p3 p0
  unfold rOf rbit
  have b0 : ∀ i, (B8 0).getLsbD i = false := fun i => by unfold B8; simp
  by_cases h : i < 3
  · have h2 : i < 32 := by omega
    have h4 : i + 3 < 32 + 3 := by omega
    have h5 : i + 6 < 32 + 6 := by omega
    cases y <;> cases q <;> simp only [or8_bit, p6, p3, p0, b0, h, h2, h4, h5, if_true, if_false, Bool.false_eq_true] <;> simp
  · cases y <;> cases q <;> simp only [or8_bit, p6, p3, p0, b0, h, if_true, if_false, Bool.false_eq_true] <;> simp
theorem mayV_iff (T : List Us.Acc) (u : ByteArray) (d : Nd) (x : Int) : mayV T u d x = true ↔ ∀ i, (B8 x).getLsbD i = true → i < 3 ∧ rbit (decide (u = d.uid)) (Us.member T u d.gid) d.mode i = true := by
  unfold mayV rightsV
  rw [andNot8, beq_iff_eq, cast_zero, zero_iff]
  constructor
  · intro h i hi
    have h1 := h i
    rw [BitVec.getLsbD_and, BitVec.getLsbD_not, rOf_bit, hi] at h1
    have h8 : i < 8 := by
      have := BitVec.lt_of_getLsbD hi
      exact this
    simp only [h8, decide_true, Bool.true_and, Bool.not_eq_false'] at h1
    simp at h1
    exact h1
  · intro h i
    rw [BitVec.getLsbD_and, BitVec.getLsbD_not, rOf_bit]
    cases hx : (B8 x).getLsbD i with
    | false => simp
    | true =>
      obtain ⟨h1, h2⟩ := h i hx
      simp [h1, h2]
theorem dirV_iff (d : Nd) : dirV d = d.mode.testBit 31 := by
  unfold dirV
  rw [and32]
  have hb : ∀ i, (B32 2147483648).getLsbD i = decide (i = 31) := fun i => by
    rw [show (2147483648 : Int) = ((2 ^ 31 : Nat) : Int) from rfl, B32_nat, Nat.testBit_two_pow]
    by_cases h : i = 31
    · subst h; rfl
    · simp [h]; omega
  cases hd : d.mode.testBit 31 with
  | false =>
    have : B32 (d.mode : Int) &&& B32 2147483648 = 0#32 := (zero_iff _).2 (fun i => by
      rw [BitVec.getLsbD_and, hb, B32_nat]
      by_cases h : i = 31
      · subst h; simp [hd]
      · simp [h])
    rw [this]; rfl
  | true =>
    simp only [bne_iff_ne, ne_eq]
    intro h
    rw [cast_zero, zero_iff] at h
    have := h 31
    rw [BitVec.getLsbD_and, hb, B32_nat, hd] at this
    simp at this
end Ru
end Go.Proofs.YtahjmpfjidijaaaGreatDoor
end
section
namespace Go.Proofs.YtahjmpfjidijaaaGreatDoor
set_option linter.unusedVariables false
open Go.RowKit
namespace Ru
/-- The rights of the classes together. -/
def rN (y q : Bool) (m : Nat) : Nat := ((m % 8) ||| (if y = true then m / 64 % 8 else 0)) ||| (if q = true then m / 8 % 8 else 0)
theorem b8 (m j i : Nat) : (m / 2 ^ j % 8).testBit i = (decide (i < 3) && m.testBit (i + j)) := by
  rw [show (8 : Nat) = 2 ^ 3 from rfl, Nat.testBit_mod_two_pow, Nat.testBit_div_two_pow]
theorem rN_bit (y q : Bool) (m i : Nat) : (rN y q m).testBit i = (decide (i < 3) && rbit y q m i) := by
  have h6 := b8 m 6 i
  have h3 := b8 m 3 i
  have h0 := b8 m 0 i
  simp only [Nat.reducePow, Nat.pow_zero, Nat.div_one, Nat.add_zero] at h6 h3 h0
  unfold rN rbit
  rw [Nat.testBit_or, Nat.testBit_or, h0]
  cases y <;> cases q <;> simp [h6, h3] <;> cases decide (i < 3) <;> simp [Bool.or_comm, Bool.or_left_comm]
theorem rN_le (y q : Bool) (m : Nat) : rN y q m ≤ 7 := by
  have : rN y q m < 2 ^ 3 := Nat.lt_pow_two_of_testBit _ (fun i hi => by
    rw [rN_bit]
    have : ¬ i < 3 := by omega
    simp [this])
  omega
theorem rOf_nat (y q : Bool) (m : Nat) : rOf y q m = (rN y q m : Int) := by
  have e : ∃ v : BitVec 8, rOf y q m = (v.toNat : Int) := ⟨_, by unfold rOf; exact or8 _ _⟩
  obtain ⟨v, hv⟩ := e
  rw [hv]
  congr 1
  refine Nat.eq_of_testBit_eq (fun i => ?_)
  have h := rOf_bit y q m i
  rw [hv, B8_toNat] at h
  rw [BitVec.testBit_toNat, h, rN_bit]
theorem and_nat (a b : Nat) (ha : a < 4294967296) (hb : b < 4294967296) : bits .and .u32 (a : Int) (b : Int) = ((a &&& b : Nat) : Int) := by
  rw [and32, BitVec.toNat_and]
  congr 1
  unfold B32
  simp
  rw [Nat.mod_eq_of_lt ha, Nat.mod_eq_of_lt hb]
theorem or_nat (a b : Nat) (ha : a < 4294967296) (hb : b < 4294967296) : bits .or .u32 (a : Int) (b : Int) = ((a ||| b : Nat) : Int) := by
  rw [or32, BitVec.toNat_or]
  congr 1
  unfold B32
  simp
  rw [Nat.mod_eq_of_lt ha, Nat.mod_eq_of_lt hb]
/-- What a user may, as a number. -/
def ownN (T : List Us.Acc) (u : ByteArray) (d : Nd) : Nat := rN (decide (u = d.uid)) (Us.member T u d.gid) d.mode
theorem rightsV_nat (T : List Us.Acc) (u : ByteArray) (d : Nd) : rightsV T u d = (ownN T u d : Int) := rOf_nat _ _ _
theorem ownN_le (T : List Us.Acc) (u : ByteArray) (d : Nd) : ownN T u d ≤ 7 := rN_le _ _ _
theorem may_bits (T : List Us.Acc) (u : ByteArray) (d : Nd) (x : Nat) (hx : x ≤ 7) : mayV T u d (x : Int) = true ↔ ownN T u d &&& x = x := by
  rw [mayV_iff]
  constructor
  · intro h
    refine Nat.eq_of_testBit_eq (fun i => ?_)
    rw [Nat.testBit_and]
    cases hxi : x.testBit i with
    | false => simp
    | true =>
      have hlt : i < 8 := by
        refine Classical.byContradiction (fun hn => ?_)
        have : x < 2 ^ i := Nat.lt_of_lt_of_le (by omega : x < 2 ^ 3) (Nat.pow_le_pow_right (by decide) (by omega))
        rw [Nat.testBit_lt_two_pow this] at hxi
        cases hxi
      obtain ⟨h1, h2⟩ := h i (by rw [B8_nat, hxi]; simp [hlt])
      unfold ownN
      rw [rN_bit, h2]
      simp [h1]
  · intro h i hi
    rw [B8_nat] at hi
    simp only [Bool.and_eq_true, decide_eq_true_eq] at hi
    have h2 : (ownN T u d &&& x).testBit i = true := by rw [h]; exact hi.2
    rw [Nat.testBit_and] at h2
    simp only [Bool.and_eq_true] at h2
    unfold ownN at h2
    rw [rN_bit] at h2
    simpa using h2.1
theorem may_and (T : List Us.Acc) (u : ByteArray) (d : Nd) (x : Nat) (hx : x ≤ 7) : mayV T u d (x : Int) = true ↔ bits .and .u32 (ownN T u d : Int) (x : Int) = (x : Int) := by
  have := ownN_le T u d
  rw [may_bits T u d x hx, and_nat _ _ (by omega) (by omega)]
  constructor
  · intro h; rw [h]
  · intro h; exact_mod_cast h
theorem and_le (a x : Nat) : a &&& x ≤ x := Nat.and_le_right
theorem may_two (T : List Us.Acc) (u : ByteArray) (d : Nd) : mayV T u d 2 = true ↔ bits .and .u32 (ownN T u d : Int) 2 ≠ 0 := by
  have h := may_and T u d 2 (by decide)
  rw [show ((2 : Nat) : Int) = 2 from rfl] at h
  rw [h]
  have := ownN_le T u d
  have e : bits .and .u32 (ownN T u d : Int) 2 = ((ownN T u d &&& 2 : Nat) : Int) := and_nat _ 2 (by omega) (by decide)
  rw [e]
  have : ∀ k : Fin 8, (k.1 &&& 2 : Nat) = 2 ∨ (k.1 &&& 2 : Nat) = 0 := by decide
  rcases this ⟨ownN T u d, by omega⟩ with h | h <;> simp only [] at h <;> rw [h] <;> decide
theorem may_one (T : List Us.Acc) (u : ByteArray) (d : Nd) : mayV T u d 1 = true ↔ bits .and .u32 (ownN T u d : Int) 1 ≠ 0 := by
  have h := may_and T u d 1 (by decide)
  rw [show ((1 : Nat) : Int) = 1 from rfl] at h
  rw [h]
  have := ownN_le T u d
  have e : bits .and .u32 (ownN T u d : Int) 1 = ((ownN T u d &&& 1 : Nat) : Int) := and_nat _ 1 (by omega) (by decide)
  rw [e]
  have : ∀ k : Fin 8, (k.1 &&& 1 : Nat) = 1 ∨ (k.1 &&& 1 : Nat) = 0 := by decide
  rcases this ⟨ownN T u d, by omega⟩ with h | h <;> simp only [] at h <;> rw [h] <;> decide
theorem wantsV_nat (mode : Int) : ∃ k : Nat, wantsV mode = (k : Int) ∧ k ≤ 7 ∧ (wantsE mode = 0 → 0 < k) := by
  unfold wantsV wantsE
  by_cases h : bits .andNot .u8 mode 83 = 0
  · rw [if_pos h, if_pos h]
    have hw : ∀ c, wantsOfV c = 4 ∨ wantsOfV c = 2 ∨ wantsOfV c = 6 ∨ wantsOfV c = 1 := fun c => by
      unfold wantsOfV
      split
      · exact Or.inl rfl
      · split
        · exact Or.inr (Or.inl rfl)
        · split
          · exact Or.inr (Or.inr (Or.inl rfl))
          · exact Or.inr (Or.inr (Or.inr rfl))
    split
    · rcases hw (bits .and .u8 mode 3) with e | e | e | e <;> rw [e]
      · exact ⟨4, rfl, by decide, fun _ => by decide⟩
      · exact ⟨2, rfl, by decide, fun _ => by decide⟩
      · exact ⟨6, rfl, by decide, fun _ => by decide⟩
      · exact ⟨1, rfl, by decide, fun _ => by decide⟩
    · rcases hw (bits .and .u8 mode 3) with e | e | e | e <;> rw [e]
      · exact ⟨6, by decide, by decide, fun _ => by decide⟩
      · exact ⟨2, by decide, by decide, fun _ => by decide⟩
      · exact ⟨6, by decide, by decide, fun _ => by decide⟩
      · exact ⟨3, by decide, by decide, fun _ => by decide⟩
  · rw [if_neg h, if_neg h]
    exact ⟨0, rfl, by decide, fun h => by cases h⟩
theorem open_ok {T : List Us.Acc} {u : ByteArray} {n p : Nd} {mode : Int} (h : openE T u n p mode = 0) : wantsE mode = 0 ∧ (dirV n = true → mode = 0) ∧ mayV T u n (wantsV mode) = true ∧ (bits .and .u8 mode 64 ≠ 0 → mayV T u p 2 = true) := by
  unfold openE at h
  by_cases h1 : wantsE mode = 0
  · rw [if_pos h1] at h
    by_cases h2 : dirV n = true ∧ mode ≠ 0
    · rw [if_pos h2] at h; cases h
    rw [if_neg h2] at h
    by_cases h3 : mayV T u n (wantsV mode) = false
    · rw [if_pos h3] at h; cases h
    rw [if_neg h3] at h
    by_cases h4 : bits .and .u8 mode 64 ≠ 0 ∧ mayV T u p 2 = false
    · rw [if_pos h4] at h; cases h
    refine ⟨h1, fun hd => Classical.byContradiction (fun hm => h2 ⟨hd, hm⟩), by simpa using h3, fun hb => ?_⟩
    cases hp : mayV T u p 2 with
    | true => rfl
    | false => exact absurd ⟨hb, hp⟩ h4
  · rw [if_neg h1] at h
    exact absurd h h1
theorem make_ok {T : List Us.Acc} {u : ByteArray} {n : Nd} {tk fl : Bool} {name : ByteArray} {pm mode : Int} (h : makeE T u n tk fl name pm mode = 0) :
    dirV n = true ∧ Nm.chk name = true ∧ permE pm = 0 ∧ wantsE mode = 0 ∧ ¬ (bits .and .u32 pm 2147483648 ≠ 0 ∧ mode ≠ 0) ∧ mayV T u n 2 = true ∧ tk = false ∧ fl = false := by
  unfold makeE at h
  by_cases h1 : dirV n = false
  · rw [if_pos h1] at h; cases h
  rw [if_neg h1] at h
  by_cases h2 : Nm.chk name = false
  · rw [if_pos h2] at h; cases h
  rw [if_neg h2] at h
  by_cases h3 : permE pm ≠ 0 ∨ wantsE mode ≠ 0
  · rw [if_pos h3] at h; cases h
  rw [if_neg h3] at h
  by_cases h4 : bits .and .u32 pm 2147483648 ≠ 0 ∧ mode ≠ 0
  · rw [if_pos h4] at h; cases h
  rw [if_neg h4] at h
  by_cases h5 : mayV T u n 2 = false
  · rw [if_pos h5] at h; cases h
  rw [if_neg h5] at h
  cases tk with
  | true => simp at h
  | false =>
    cases fl with
    | true => simp at h
    | false =>
      have a : permE pm = 0 := Classical.byContradiction (fun hn => h3 (Or.inl hn))
      have b : wantsE mode = 0 := Classical.byContradiction (fun hn => h3 (Or.inr hn))
      exact ⟨by simpa using h1, by simpa using h2, a, b, h4, by simpa using h5, rfl, rfl⟩
theorem remove_ok {T : List Us.Acc} {u : ByteArray} {n p : Nd} (h : removeE T u n p = 0) : ((n.path : Int) == 1) = false ∧ mayV T u p 2 = true := by
  unfold removeE at h
  by_cases h1 : ((n.path : Int) == 1) = true ∨ mayV T u p 2 = false
  · rw [if_pos h1] at h; cases h
  · exact ⟨by cases hp : ((n.path : Int) == 1) with
      | true => exact absurd (Or.inl hp) h1
      | false => rfl, by cases hp : mayV T u p 2 with
      | false => exact absurd (Or.inr hp) h1
      | true => rfl⟩
theorem step_iff (T : List Us.Acc) (u : ByteArray) (n : Nd) : stepE T u n = 0 ↔ mayV T u n 1 = true ∧ dirV n = true := by
  unfold stepE
  cases dirV n <;> cases mayV T u n 1 <;> simp
end Ru
end Go.Proofs.YtahjmpfjidijaaaGreatDoor
end
section
namespace Go.Proofs.YtahjmpfjidijaaaGreatDoor
open Go.RowKit
namespace Ru
def moreM (m : Nat) (x : Int) : Nat := (B32 (m : Int) ||| (B32 x &&& B32 511)).toNat
theorem moreM_cast (m : Nat) (x : Int) : bits .or .u32 (m : Int) (bits .and .u32 x 511) = (moreM m x : Int) := by
  unfold moreM
  rw [or32, and32, B32_toNat]
theorem c511 (i : Nat) : (B32 511).getLsbD i = decide (i < 9) := by
  rw [show (511 : Int) = ((2 ^ 9 - 1 : Nat) : Int) from rfl, B32_nat, Nat.testBit_two_pow_sub_one]
  by_cases h : i < 9
  · have : i < 32 := by omega
    simp [h, this]
  · simp [h]
theorem moreM_bit (m : Nat) (x : Int) (i : Nat) (h : i < 32) : (moreM m x).testBit i = (m.testBit i || ((B32 x).getLsbD i && decide (i < 9))) := by
  unfold moreM
  rw [BitVec.testBit_toNat, BitVec.getLsbD_or, BitVec.getLsbD_and, B32_nat, c511]
  simp [h]
/-- A node with more rights. -/
def Nd.more (d : Nd) (x : Int) : Nd := { d with mode := moreM d.mode x }
theorem more_rbit (y q : Bool) (m : Nat) (x : Int) (i : Nat) (hi : i < 3) (h : rbit y q m i = true) : rbit y q (moreM m x) i = true := by
  unfold rbit at h ⊢
  rw [moreM_bit m x i (by omega), moreM_bit m x (i + 3) (by omega), moreM_bit m x (i + 6) (by omega)]
  simp only [Bool.or_eq_true, Bool.and_eq_true] at h ⊢
  rcases h with (⟨h1, h2⟩ | ⟨h1, h2⟩) | h
  · exact Or.inl (Or.inl ⟨h1, Or.inl h2⟩)
  · exact Or.inl (Or.inr ⟨h1, Or.inl h2⟩)
  · exact Or.inr (Or.inl h)
theorem more_may (T : List Us.Acc) (u : ByteArray) (d : Nd) (x c : Int) (h : mayV T u d c = true) : mayV T u (d.more x) c = true := by
  rw [mayV_iff] at h ⊢
  intro i hi
  obtain ⟨h1, h2⟩ := h i hi
  exact ⟨h1, more_rbit _ _ _ _ _ h1 h2⟩
theorem more_dir (d : Nd) (x : Int) : dirV (d.more x) = dirV d := by
  rw [dirV_iff, dirV_iff]
  show (moreM d.mode x).testBit 31 = _
  rw [moreM_bit _ _ _ (by decide)]
  simp
theorem bit_zero (m : Nat) (k : Nat) (hk : k < 32) : bits .and .u32 (m : Int) ((2 ^ k : Nat) : Int) = 0 ↔ m.testBit k = false := by
  have hb : ∀ i, (B32 ((2 ^ k : Nat) : Int)).getLsbD i = decide (i = k) := fun i => by
    rw [B32_nat, Nat.testBit_two_pow]
    by_cases h : i = k
    · subst h; simp [hk]
    · have : ¬ k = i := fun e => h e.symm
      simp [h, this]
  rw [and32, cast_zero, zero_iff]
  constructor
  · intro h
    have := h k
    rw [BitVec.getLsbD_and, hb, B32_nat] at this
    simpa [hk] using this
  · intro h i
    rw [BitVec.getLsbD_and, hb, B32_nat]
    by_cases e : i = k
    · subst e; simp [h]
    · simp [e]
theorem more_excl (d : Nd) (x : Int) : bits .and .u32 ((d.more x).mode : Int) 536870912 = 0 ↔ bits .and .u32 (d.mode : Int) 536870912 = 0 := by
  rw [show (536870912 : Int) = ((2 ^ 29 : Nat) : Int) from rfl, bit_zero _ _ (by decide), bit_zero _ _ (by decide)]
  show (moreM d.mode x).testBit 29 = false ↔ _
  rw [moreM_bit _ _ _ (by decide)]
  simp
theorem more_open (T : List Us.Acc) (u : ByteArray) (n p : Nd) (x y mode : Int) (h : openE T u n p mode = 0) : openE T u (n.more x) (p.more y) mode = 0 := by
  unfold openE at h ⊢
  by_cases h1 : wantsE mode = 0
  · rw [if_pos h1] at h ⊢
    rw [more_dir]
    by_cases h2 : dirV n = true ∧ mode ≠ 0
    · rw [if_pos h2] at h; cases h
    · rw [if_neg h2] at h ⊢
      by_cases h3 : mayV T u n (wantsV mode) = false
      · rw [if_pos h3] at h; cases h
      · rw [if_neg h3] at h
        rw [if_neg (by rw [more_may T u n x _ (by simpa using h3)]; simp)]
        by_cases h4 : bits .and .u8 mode 64 ≠ 0 ∧ mayV T u p 2 = false
        · rw [if_pos h4] at h; cases h
        · rw [if_neg h4] at h
          have h4' : ¬ (bits .and .u8 mode 64 ≠ 0 ∧ mayV T u (p.more y) 2 = false) := fun ⟨a, b⟩ => h4 ⟨a, by
            cases hp : mayV T u p 2 with
            | false => rfl
            | true => rw [more_may T u p y _ hp] at b; cases b⟩
          rw [if_neg h4']
          by_cases h5 : bits .and .u32 (n.mode : Int) 536870912 ≠ 0 ∧ 0 < n.opens
          · rw [if_pos h5] at h; cases h
          · rw [if_neg (fun ⟨a, b⟩ => h5 ⟨fun e => a ((more_excl n x).2 e), b⟩)]
  · rw [if_neg h1] at h
    exact absurd h h1
theorem more_remove (T : List Us.Acc) (u : ByteArray) (n p : Nd) (x y : Int) (h : removeE T u n p = 0) : removeE T u (n.more x) (p.more y) = 0 := by
  unfold removeE at h ⊢
  rw [more_dir]
  by_cases h1 : ((n.path : Int) == 1) = true ∨ mayV T u p 2 = false
  · rw [if_pos h1] at h; cases h
  · rw [if_neg h1] at h
    have h1' : ¬ (((((n.more x).path : Nat) : Int) == 1) = true ∨ mayV T u (p.more y) 2 = false) := by
      rintro (a | b)
      · exact h1 (Or.inl a)
      · cases hp : mayV T u p 2 with
        | false => exact h1 (Or.inr hp)
        | true => rw [more_may T u p y _ hp] at b; cases b
    rw [if_neg h1']
    by_cases h2 : dirV n = true ∧ 0 < n.kids
    · rw [if_pos h2] at h; cases h
    · exact if_neg h2
theorem more_step (T : List Us.Acc) (u : ByteArray) (n : Nd) (x : Int) (h : stepE T u n = 0) : stepE T u (n.more x) = 0 := by
  unfold stepE at h ⊢
  rw [more_dir]
  by_cases h1 : dirV n = false
  · rw [if_pos h1] at h; cases h
  · rw [if_neg h1] at h ⊢
    by_cases h2 : mayV T u n 1 = false
    · rw [if_pos h2] at h; cases h
    · rw [if_neg (by rw [more_may T u n x _ (by simpa using h2)]; simp)]
theorem more_make (T : List Us.Acc) (u : ByteArray) (n : Nd) (tk fl : Bool) (name : ByteArray) (pm mode x : Int) (h : makeE T u n tk fl name pm mode = 0) : makeE T u (n.more x) tk fl name pm mode = 0 := by
  unfold makeE at h ⊢
  rw [more_dir]
  by_cases h1 : dirV n = false
  · rw [if_pos h1] at h; cases h
  rw [if_neg h1] at h ⊢
  by_cases h2 : Nm.chk name = false
  · rw [if_pos h2] at h; cases h
  rw [if_neg h2] at h ⊢
  by_cases h3 : permE pm ≠ 0 ∨ wantsE mode ≠ 0
  · rw [if_pos h3] at h; cases h
  rw [if_neg h3] at h ⊢
  by_cases h4 : bits .and .u32 pm 2147483648 ≠ 0 ∧ mode ≠ 0
  · rw [if_pos h4] at h; cases h
  rw [if_neg h4] at h ⊢
  by_cases h5 : mayV T u n 2 = false
  · rw [if_pos h5] at h; cases h
  rw [if_neg h5] at h
  rw [if_neg (by rw [more_may T u n x _ (by simpa using h5)]; simp)]
  exact h
end Ru
end Go.Proofs.YtahjmpfjidijaaaGreatDoor
end
section
namespace Go.Proofs.YtahjmpfjidijaaaGreatDoor
set_option linter.unusedVariables false
open Go.RowKit Go.Shelf
attribute [local go_sem] Oper.semAt_some
namespace Ru
open Go.Proofs.YtahjmpfjidijaaaGreatDoor.Utf Go.Proofs.YtahjmpfjidijaaaGreatDoor.Txt Go.PlainAid Go.Proofs.YtahjmpfjidijaaaGreatDoor.Mpf Go.Proofs.YtahjmpfjidijaaaGreatDoor.Us

/-- What Create makes. -/
def createA (T : List Acc) (u : ByteArray) (n : Nd) (tk fl : Bool) (name : ByteArray) (pm mode : Int) : Array Value :=
  if makeE T u n tk fl name pm mode = 0 then #[.int .u64 0, .int .u64 n.path, .string name, .int .u32 (modeInV n.mode pm), .string u, .string n.gid, .string u, .int .u32 0, .int .u32 0, .int .u32 0, .int .u64 0, .int .i64 0, .int .i64 0] else #[.int .u64 0, .int .u64 0, .string ⟨#[]⟩, .int .u32 0, .string ⟨#[]⟩, .string ⟨#[]⟩, .string ⟨#[]⟩, .int .u32 0, .int .u32 0, .int .u32 0, .int .u64 0, .int .i64 0, .int .i64 0]
theorem createA_ok (T : List Acc) (u : ByteArray) (n : Nd) (tk fl : Bool) (name : ByteArray) (pm mode : Int) : (createA T u n tk fl name pm mode).size = 13 ∧ (createA T u n tk fl name pm mode).all (·.oneCell') = true := by
  unfold createA
  split
  · exact ⟨rfl, by simp [Value.oneCell']⟩
  · exact ⟨rfl, by simp [Value.oneCell']⟩
theorem Create_any {w : World} {B q : Nat} {T : List Acc} (h : Tb w B q T) (u : ByteArray) (n p : Nd) (tk fl : Bool) (name : ByteArray) (pm mode : Int) (hu : u.size ≤ maxLen) (hg : n.gid.size ≤ maxLen) (hn : name.size ≤ 140737488355328) :
    Calls Tryz.prog 26 #[.pointer (some ⟨q, 0, none⟩), .string u, .agg #[.int .u64 n.path, .int .u64 n.parent, .string n.name, .int .u32 n.mode, .string n.uid, .string n.gid, .string n.muid, .int .u32 n.atime, .int .u32 n.mtime, .int .u32 n.vers, .int .u64 n.length, .int .i64 n.opens, .int .i64 n.kids, .int .u64 p.path, .int .u64 p.parent, .string p.name, .int .u32 p.mode, .string p.uid, .string p.gid, .string p.muid, .int .u32 p.atime, .int .u32 p.mtime, .int .u32 p.vers, .int .u64 p.length, .int .i64 p.opens, .int .i64 p.kids, .bool tk, .bool fl], .string name, .int .u32 pm, .int .u8 mode] w fun e w' => e = .returned (.tuple #[.agg (createA T u n tk fl name pm mode), .int .i64 (makeE T u n tk fl name pm mode)]) ∧ Kept [] w w' := by
  by_cases hz : makeE T u n tk fl name pm mode = 0
  · have := Create_ok h u n p tk fl name pm mode hu hg hn hz (modeInV n.mode pm) rfl
    unfold createA
    rw [if_pos hz, hz]
    exact this
  · have := Create_no h u n p tk fl name pm mode hu hg hn _ rfl hz
    unfold createA
    rw [if_neg hz]
    exact this
theorem Bf.made (w : World) (n p : Nd) (tk fl : Bool) : Bf (w.alloc (.cells #[.int .u64 n.path, .int .u64 n.parent, .string n.name, .int .u32 n.mode, .string n.uid, .string n.gid, .string n.muid, .int .u32 n.atime, .int .u32 n.mtime, .int .u32 n.vers, .int .u64 n.length, .int .i64 n.opens, .int .i64 n.kids, .int .u64 p.path, .int .u64 p.parent, .string p.name, .int .u32 p.mode, .string p.uid, .string p.gid, .string p.muid, .int .u32 p.atime, .int .u32 p.mtime, .int .u32 p.vers, .int .u64 p.length, .int .i64 p.opens, .int .i64 p.kids, .bool tk, .bool fl] 53)) w.heap.size n p tk fl := (MapKept.heap_alloc w _).1
theorem wpList_sfacts {w : World} {ops : Array Oper} {rest : List Oper} {o : Oper} {a : Act} {Q : Exit → Act → World → Prop} (hgd : o.guard = none) (x y : Operand) (ho : o.op = .store 53 x y) (g : Nat) (hx : a.eval x = .pointer (some ⟨g, 0, none⟩)) (old cs : Array Value)
    (hy : a.eval y = .agg cs) (hg : w.heap[g]? = some (.cells old 53 (0, 0))) (hs : old.size = 28) (hc : cs.size = 28) (h1 : cs.all (·.oneCell') = true)
    (h : ∀ w', w'.heap[g]? = some (.cells cs 53 (0, 0)) → Kept [g] w w' → wpList Tryz.prog ops Q rest (a.put o.dst undef) w') : wpList Tryz.prog ops Q (o :: rest) a w :=
  wpList_plain hgd fun K hK => by
    have := run_storeVar_row (P := Tryz.prog) w g 53 53 old cs hg (by rw [hc]; exact size_f8) (by rw [hs, hc]) h1
    unfold Oper.wp execOp
    simp only [ho, hx, hy, Instr.storeAt, Instr.sureAddr, Sem.run_bind, Sem.run_pure, Result.andThen_ok, this]
    exact hK _ _ (h _ (setRow_heap w g old cs 53 (0, 0) hg) ⟨rfl, rfl, rfl, by simp [World.setRow], fun k _ hk => setRow_other w g k _ (by simpa using hk)⟩)
theorem ml_kept {w w' : World} (h : Ml w) (k : Kept [] w w') : Ml w' := by
  obtain ⟨m, hc⟩ := h
  exact ⟨m, by rw [← hc]; exact World.cell?_of_block (k.block _ (World.block_lt_of_cell? w _ hc) (by simp))⟩
end Ru
end Go.Proofs.YtahjmpfjidijaaaGreatDoor
end
