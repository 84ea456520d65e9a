/- rules: more rights, mathematics. No program's run. -/
import Derived.Test.YtondjodfkgefgaaDoorRbt
import Derived.Test.YtondjodfkgefgaaDoorRcs
namespace Go.Proofs.YtondjodfkgefgaaDoor
open Go.RowKit
namespace Ru
def moreM (m : Nat) (x : Int) : Nat := (B32 (m : Int) ||| (B32 x &&& B32 511)).toNat
theorem moreM_cast (m : Nat) (x : Int) : bits .or .u32 (m : Int) (bits .and .u32 x 511) = (moreM m x : Int) := by
  unfold moreM
  rw [or32, and32, B32_toNat]
theorem c511 (i : Nat) : (B32 511).getLsbD i = decide (i < 9) := by
  rw [show (511 : Int) = ((2 ^ 9 - 1 : Nat) : Int) from rfl, B32_nat, Nat.testBit_two_pow_sub_one]
  by_cases h : i < 9
  · have : i < 32 := by omega
    simp [h, this]
  · simp [h]
theorem moreM_bit (m : Nat) (x : Int) (i : Nat) (h : i < 32) : (moreM m x).testBit i = (m.testBit i || ((B32 x).getLsbD i && decide (i < 9))) := by
  unfold moreM
  rw [BitVec.testBit_toNat, BitVec.getLsbD_or, BitVec.getLsbD_and, B32_nat, c511]
  simp [h]
/-- A node with more rights. -/
def Nd.more (d : Nd) (x : Int) : Nd := { d with mode := moreM d.mode x }
theorem more_rbit (y q : Bool) (m : Nat) (x : Int) (i : Nat) (hi : i < 3) (h : rbit y q m i = true) : rbit y q (moreM m x) i = true := by
  unfold rbit at h ⊢
  rw [moreM_bit m x i (by omega), moreM_bit m x (i + 3) (by omega), moreM_bit m x (i + 6) (by omega)]
  simp only [Bool.or_eq_true, Bool.and_eq_true] at h ⊢
  rcases h with (⟨h1, h2⟩ | ⟨h1, h2⟩) | h
  · exact Or.inl (Or.inl ⟨h1, Or.inl h2⟩)
  · exact Or.inl (Or.inr ⟨h1, Or.inl h2⟩)
  · exact Or.inr (Or.inl h)
theorem more_may (T : List Us.Acc) (u : ByteArray) (d : Nd) (x c : Int) (h : mayV T u d c = true) : mayV T u (d.more x) c = true := by
  rw [mayV_iff] at h ⊢
  intro i hi
  obtain ⟨h1, h2⟩ := h i hi
  exact ⟨h1, more_rbit _ _ _ _ _ h1 h2⟩
theorem more_dir (d : Nd) (x : Int) : dirV (d.more x) = dirV d := by
  rw [dirV_iff, dirV_iff]
  show (moreM d.mode x).testBit 31 = _
  rw [moreM_bit _ _ _ (by decide)]
  simp
theorem bit_zero (m : Nat) (k : Nat) (hk : k < 32) : bits .and .u32 (m : Int) ((2 ^ k : Nat) : Int) = 0 ↔ m.testBit k = false := by
  have hb : ∀ i, (B32 ((2 ^ k : Nat) : Int)).getLsbD i = decide (i = k) := fun i => by
    rw [B32_nat, Nat.testBit_two_pow]
    by_cases h : i = k
    · subst h; simp [hk]
    · have : ¬ k = i := fun e => h e.symm
      simp [h, this]
  rw [and32, cast_zero, zero_iff]
  constructor
  · intro h
    have := h k
    rw [BitVec.getLsbD_and, hb, B32_nat] at this
    simpa [hk] using this
  · intro h i
    rw [BitVec.getLsbD_and, hb, B32_nat]
    by_cases e : i = k
    · subst e; simp [h]
    · simp [e]
theorem more_excl (d : Nd) (x : Int) : bits .and .u32 ((d.more x).mode : Int) 536870912 = 0 ↔ bits .and .u32 (d.mode : Int) 536870912 = 0 := by
  rw [show (536870912 : Int) = ((2 ^ 29 : Nat) : Int) from rfl, bit_zero _ _ (by decide), bit_zero _ _ (by decide)]
  show (moreM d.mode x).testBit 29 = false ↔ _
  rw [moreM_bit _ _ _ (by decide)]
  simp
theorem more_open (T : List Us.Acc) (u : ByteArray) (n p : Nd) (x y mode : Int) (h : openE T u n p mode = 0) : openE T u (n.more x) (p.more y) mode = 0 := by
  unfold openE at h ⊢
  by_cases h1 : wantsE mode = 0
  · rw [if_pos h1] at h ⊢
    rw [more_dir]
    by_cases h2 : dirV n = true ∧ mode ≠ 0
    · rw [if_pos h2] at h; cases h
    · rw [if_neg h2] at h ⊢
      by_cases h3 : mayV T u n (wantsV mode) = false
      · rw [if_pos h3] at h; cases h
      · rw [if_neg h3] at h
        rw [if_neg (by rw [more_may T u n x _ (by simpa using h3)]; simp)]
        by_cases h4 : bits .and .u8 mode 64 ≠ 0 ∧ mayV T u p 2 = false
        · rw [if_pos h4] at h; cases h
        · rw [if_neg h4] at h
          have h4' : ¬ (bits .and .u8 mode 64 ≠ 0 ∧ mayV T u (p.more y) 2 = false) := fun ⟨a, b⟩ => h4 ⟨a, by
            cases hp : mayV T u p 2 with
            | false => rfl
            | true => rw [more_may T u p y _ hp] at b; cases b⟩
          rw [if_neg h4']
          by_cases h5 : bits .and .u32 (n.mode : Int) 536870912 ≠ 0 ∧ 0 < n.opens
          · rw [if_pos h5] at h; cases h
          · rw [if_neg (fun ⟨a, b⟩ => h5 ⟨fun e => a ((more_excl n x).2 e), b⟩)]
  · rw [if_neg h1] at h
    exact absurd h h1
theorem more_remove (T : List Us.Acc) (u : ByteArray) (n p : Nd) (x y : Int) (h : removeE T u n p = 0) : removeE T u (n.more x) (p.more y) = 0 := by
  unfold removeE at h ⊢
  rw [more_dir]
  by_cases h1 : ((n.path : Int) == 1) = true ∨ mayV T u p 2 = false
  · rw [if_pos h1] at h; cases h
  · rw [if_neg h1] at h
    have h1' : ¬ (((((n.more x).path : Nat) : Int) == 1) = true ∨ mayV T u (p.more y) 2 = false) := by
      rintro (a | b)
      · exact h1 (Or.inl a)
      · cases hp : mayV T u p 2 with
        | false => exact h1 (Or.inr hp)
        | true => rw [more_may T u p y _ hp] at b; cases b
    rw [if_neg h1']
    by_cases h2 : dirV n = true ∧ 0 < n.kids
    · rw [if_pos h2] at h; cases h
    · exact if_neg h2
theorem more_step (T : List Us.Acc) (u : ByteArray) (n : Nd) (x : Int) (h : stepE T u n = 0) : stepE T u (n.more x) = 0 := by
  unfold stepE at h ⊢
  rw [more_dir]
  by_cases h1 : dirV n = false
  · rw [if_pos h1] at h; cases h
  · rw [if_neg h1] at h ⊢
    by_cases h2 : mayV T u n 1 = false
    · rw [if_pos h2] at h; cases h
    · rw [if_neg (by rw [more_may T u n x _ (by simpa using h2)]; simp)]
theorem more_make (T : List Us.Acc) (u : ByteArray) (n : Nd) (tk fl : Bool) (name : ByteArray) (pm mode x : Int) (h : makeE T u n tk fl name pm mode = 0) : makeE T u (n.more x) tk fl name pm mode = 0 := by
  unfold makeE at h ⊢
  rw [more_dir]
  by_cases h1 : dirV n = false
  · rw [if_pos h1] at h; cases h
  rw [if_neg h1] at h ⊢
  by_cases h2 : Nm.chk name = false
  · rw [if_pos h2] at h; cases h
  rw [if_neg h2] at h ⊢
  by_cases h3 : permE pm ≠ 0 ∨ wantsE mode ≠ 0
  · rw [if_pos h3] at h; cases h
  rw [if_neg h3] at h ⊢
  by_cases h4 : bits .and .u32 pm 2147483648 ≠ 0 ∧ mode ≠ 0
  · rw [if_pos h4] at h; cases h
  rw [if_neg h4] at h ⊢
  by_cases h5 : mayV T u n 2 = false
  · rw [if_pos h5] at h; cases h
  rw [if_neg h5] at h
  rw [if_neg (by rw [more_may T u n x _ (by simpa using h5)]; simp)]
  exact h
end Ru
end Go.Proofs.YtondjodfkgefgaaDoor
