/- rules: a change that touches one field or none; what an empty mode gives: plain facts. -/
import Derived.Test.YtahjmpfjidijaaaGreatDoorGan
import Derived.Test.YtahjmpfjidijaaaGreatDoorHRwv
namespace Go.Proofs.YtahjmpfjidijaaaGreatDoor
set_option linter.unusedVariables false
open Go.RowKit Go.Shelf
theorem eqk_refl (s : Rec) : ∀ k, eqk s s k = true := fun k => by unfold eqk; split <;> simp
theorem tk_self (s : Rec) (k : Nat) : tk s s k = false := by unfold tk; rw [eqk_refl s k]; simp
theorem tk_keep (h : Rec) (k : Nat) : tk keepR h k = false := by unfold tk; rw [eqk_refl keepR k]; rfl
namespace Ru
open Go.Proofs.YtahjmpfjidijaaaGreatDoor.Utf Go.Proofs.YtahjmpfjidijaaaGreatDoor.Txt Go.PlainAid Go.Proofs.YtahjmpfjidijaaaGreatDoor.Mpf Go.Proofs.YtahjmpfjidijaaaGreatDoor.Us
theorem firstE_skip {r : Nat → Int} {t : Nat → Bool} {a : Nat} : ∀ j, (∀ i, a ≤ i → i < a + j → t i = false) → firstE r t (a + j) = firstE r t a
  | 0, _ => rfl
  | j + 1, h => by
    have ih := firstE_skip (r := r) j (fun i h1 h2 => h i h1 (by omega))
    show firstE r t (a + j + 1) = _
    simp only [firstE, ih, h (a + j) (by omega) (by omega)]
    by_cases h0 : firstE r t a = 0
    · simp [h0]
    · simp [h0]
theorem firstE_zero {r : Nat → Int} {t : Nat → Bool} (n : Nat) (h : ∀ i, i < n → t i = false) : firstE r t n = 0 := by
  have := firstE_skip (r := r) (t := t) (a := 0) n (fun i _ h2 => h i (by omega))
  rw [Nat.zero_add] at this
  exact this
theorem firstE_one {r : Nat → Int} {t : Nat → Bool} {k : Nat} (hk : k < 13) (h : ∀ j, j ≠ k → t j = false) : firstE r t 13 = if t k = true then r k else 0 := by
  have h1 := firstE_zero (r := r) k (fun i hi => h i (by omega))
  have h2 := firstE_skip (r := r) (t := t) (a := k + 1) (12 - k) (fun i h1 h2 => h i (by omega))
  rw [show k + 1 + (12 - k) = 13 by omega] at h2
  rw [h2]
  simp [firstE, h1]
theorem setN_none {f : Nat → Nd → Nd} {t : Nat → Bool} {x : Nd} (h : ∀ k, t k = false) : ∀ n, setN f t x n = x
  | 0 => rfl
  | n + 1 => by rw [setN_off (h n), setN_none h n]
theorem wst_none {T : List Acc} {u : ByteArray} {n p : Nd} {tk : Bool} {s : Wn} (h : ∀ k, tkn s n k = false) : wstE T u n p tk s = 0 ∧ wstN T u n p tk s = n := by
  have h1 : wstE T u n p tk s = 0 := firstE_zero 13 (fun i _ => h i)
  exact ⟨h1, by unfold wstN; rw [if_pos h1, setN_none h]⟩
/-- A node's own record, as one that is asked for. -/
def recW (d : Nd) : Wn := ⟨0, 0, d.mode / 16777216, d.vers, d.path, d.mode, d.atime, d.mtime, if dirV d = true then 0 else d.length, d.name, d.uid, d.gid, d.muid⟩
def keepW : Wn := ⟨65535, 4294967295, 255, 4294967295, 18446744073709551615, 4294967295, 4294967295, 4294967295, 18446744073709551615, ⟨#[]⟩, ⟨#[]⟩, ⟨#[]⟩, ⟨#[]⟩⟩
theorem wst_own (T : List Acc) (u : ByteArray) (n p : Nd) (tk : Bool) : wstE T u n p tk (recW n) = 0 ∧ wstN T u n p tk (recW n) = n :=
  wst_none (fun k => tk_self (recR n) k)
theorem wst_keep (T : List Acc) (u : ByteArray) (n p : Nd) (tk : Bool) : wstE T u n p tk keepW = 0 ∧ wstN T u n p tk keepW = n :=
  wst_none (fun k => tk_keep (recR n) k)
/-- What all of it comes to. -/
theorem setN_all (s : Wn) (t : Nat → Bool) (n : Nd) : setN (setK s) t n 13 = ⟨n.path, n.parent, if t 9 = true then s.nm else n.name, if t 5 = true then s.mo else n.mode, n.uid, if t 11 = true then s.gd else n.gid, n.muid, n.atime, if t 7 = true then s.mt else n.mtime, n.vers, if t 8 = true then s.ln else n.length, n.opens, n.kids⟩ := by
  have g : ∀ k x, k ≠ 5 → k ≠ 7 → k ≠ 8 → k ≠ 9 → k ≠ 11 → setK s k x = x := fun k x h5 h7 h8 h9 h11 => by unfold setK; split <;> first | rfl | (exfalso; omega)
  have e : ∀ k, k ≠ 5 → k ≠ 7 → k ≠ 8 → k ≠ 9 → k ≠ 11 → setN (setK s) t n (k + 1) = setN (setK s) t n k := fun k h5 h7 h8 h9 h11 => by
    simp only [setN, g k _ h5 h7 h8 h9 h11, ite_self]
  have e5 : setN (setK s) t n 5 = n := by
    rw [e 4 (by omega) (by omega) (by omega) (by omega) (by omega), e 3 (by omega) (by omega) (by omega) (by omega) (by omega), e 2 (by omega) (by omega) (by omega) (by omega) (by omega), e 1 (by omega) (by omega) (by omega) (by omega) (by omega), e 0 (by omega) (by omega) (by omega) (by omega) (by omega)]
    rfl
  have h6 : setN (setK s) t n 6 = if t 5 = true then setK s 5 n else n := by
    have this : setN (setK s) t n (5 + 1) = if t 5 = true then setK s 5 (setN (setK s) t n 5) else setN (setK s) t n 5 := rfl
    rw [e5] at this
    exact this
  have h7 : setN (setK s) t n 7 = setN (setK s) t n 6 := e 6 (by omega) (by omega) (by omega) (by omega) (by omega)
  have h8 : setN (setK s) t n 8 = if t 7 = true then setK s 7 (setN (setK s) t n 6) else setN (setK s) t n 6 := by
    have this : setN (setK s) t n (7 + 1) = if t 7 = true then setK s 7 (setN (setK s) t n 7) else setN (setK s) t n 7 := rfl
    rw [h7] at this
    exact this
  have h9 : setN (setK s) t n 9 = if t 8 = true then setK s 8 (setN (setK s) t n 8) else setN (setK s) t n 8 := rfl
  have h10 : setN (setK s) t n 10 = if t 9 = true then setK s 9 (setN (setK s) t n 9) else setN (setK s) t n 9 := rfl
  have h11 : setN (setK s) t n 11 = setN (setK s) t n 10 := e 10 (by omega) (by omega) (by omega) (by omega) (by omega)
  have h12 : setN (setK s) t n 12 = if t 11 = true then setK s 11 (setN (setK s) t n 10) else setN (setK s) t n 10 := by
    have this : setN (setK s) t n (11 + 1) = if t 11 = true then setK s 11 (setN (setK s) t n 11) else setN (setK s) t n 11 := rfl
    rw [h11] at this
    exact this
  have h13 : setN (setK s) t n 13 = setN (setK s) t n 12 := e 12 (by omega) (by omega) (by omega) (by omega) (by omega)
  rw [h13, h12, h10, h9, h8, h6]
  clear h13 h12 h11 h10 h9 h8 h7 h6 e5 e g
  cases t 5 <;> cases t 7 <;> cases t 8 <;> cases t 9 <;> cases t 11 <;> rfl
/-- A node of which all rights are taken away. -/
def bareM (m : Nat) : Nat := (B32 (m : Int) &&& ~~~(B32 511)).toNat
def Nd.bare (d : Nd) : Nd := { d with mode := bareM d.mode }
theorem bare_cast (m : Nat) : bits .andNot .u32 (m : Int) 511 = (bareM m : Int) := andNot32 _ _
theorem bare_lt (m : Nat) : bareM m < 4294967296 := (B32 (m : Int) &&& ~~~(B32 511)).isLt
theorem bare_bit (m i : Nat) (hi : i < 9) : (bareM m).testBit i = false := by
  unfold bareM
  rw [BitVec.testBit_toNat, BitVec.getLsbD_and, BitVec.getLsbD_not, c511]
  simp [hi]
theorem bare_rbit (y q : Bool) (m i : Nat) (hi : i < 3) : rbit y q (bareM m) i = false := by
  unfold rbit
  rw [bare_bit m (i + 6) (by omega), bare_bit m (i + 3) (by omega), bare_bit m i (by omega)]
  simp
theorem bare_own (T : List Acc) (u : ByteArray) (d : Nd) : ownN T u d.bare = 0 := by
  apply Nat.eq_of_testBit_eq
  intro i
  show (rN _ _ (bareM d.mode)).testBit i = _
  rw [rN_bit, Nat.zero_testBit]
  by_cases h : i < 3
  · rw [bare_rbit _ _ _ i h]; simp
  · simp [h]
theorem bare_rights (T : List Acc) (u : ByteArray) (d : Nd) : rightsV T u d.bare = 0 := by rw [rightsV_nat, bare_own]; rfl
theorem bare_may (T : List Acc) (u : ByteArray) (d : Nd) (x : Nat) (h1 : 0 < x) (h7 : x ≤ 7) : mayV T u d.bare (x : Int) = false := by
  cases h : mayV T u d.bare (x : Int) with
  | false => rfl
  | true =>
    have := (may_bits T u d.bare x h7).1 h
    rw [bare_own, Nat.zero_and] at this
    omega
theorem bare_two (T : List Acc) (u : ByteArray) (d : Nd) : mayV T u d.bare 2 = false := bare_may T u d 2 (by omega) (by omega)
theorem bare_open (T : List Acc) (u : ByteArray) (n p : Nd) (mode : Int) : openE T u n.bare p mode ≠ 0 := fun h => by
  obtain ⟨a, -, c, -⟩ := open_ok h
  obtain ⟨wn, hwn, wn7, wnp⟩ := wantsV_nat mode
  rw [hwn, bare_may T u n wn (wnp a) wn7] at c
  cases c
theorem bare_make (T : List Acc) (u : ByteArray) (n : Nd) (tk fl : Bool) (name : ByteArray) (pm mode : Int) : makeE T u n.bare tk fl name pm mode ≠ 0 := fun h => by
  obtain ⟨a, b, _, _, _, c, d, e⟩ := make_ok h
  rw [bare_two] at c
  cases c
theorem bare_remove (T : List Acc) (u : ByteArray) (n p : Nd) : removeE T u n p.bare ≠ 0 := fun h => by
  obtain ⟨-, b⟩ := remove_ok h
  rw [bare_two] at b
  cases b
theorem bare_step (T : List Acc) (u : ByteArray) (n : Nd) : stepE T u n.bare ≠ 0 := fun h => by
  have c := ((step_iff T u n.bare).1 h).1
  have := bare_may T u n 1 (by omega) (by omega)
  rw [show ((1 : Nat) : Int) = 1 from rfl, c] at this
  cases this
theorem bare_len (T : List Acc) (u : ByteArray) (n p : Nd) (tk : Bool) (ln : Nat) : wstE T u n.bare p tk { keepW with ln := ln } = 0 ↔ (ln = 18446744073709551615 ∨ (ln : Int) = recLen n.bare) := by
  have hr : (recLen n.bare) = ((recR n.bare).len : Int) := by
    show (if dirV n.bare = true then (0 : Int) else (n.bare.length : Int)) = ((if dirV n.bare = true then 0 else n.bare.length : Nat) : Int)
    split <;> rfl
  have h := firstE_one (r := whyNot T u n.bare p tk { keepW with ln := ln }) (t := tkn { keepW with ln := ln } n.bare) (k := 8) (by omega) (fun j hj => by
    show (!eqk (Wn.rc { keepW with ln := ln }) keepR j && _) = false
    have : eqk (Wn.rc { keepW with ln := ln }) keepR j = true := by
      have h8 : j ≠ 8 := hj
      unfold eqk
      split <;> first | rfl | (simp [keepW, keepR, Wn.rc]; done) | (exfalso; omega)
    rw [this]; rfl)
  unfold wstE
  rw [h]
  have e8 : tkn { keepW with ln := ln } n.bare 8 = (!((ln : Int) == 18446744073709551615) && !((ln : Int) == ((recR n.bare).len : Int))) := rfl
  have r8 : whyNot T u n.bare p tk { keepW with ln := ln } 8 ≠ 0 := by
    show rLength T u n.bare ln ≠ 0
    unfold rLength
    rw [bare_two]
    split
    · decide
    · simp
  rw [e8, hr]
  by_cases h1 : ln = 18446744073709551615
  · subst h1; simp
  · by_cases h2 : ln = (recR n.bare).len
    · subst h2; simp
    · have b1 : ((ln : Int) == 18446744073709551615) = false := by simp; omega
      have b2 : ((ln : Int) == ((recR n.bare).len : Int)) = false := by simp; omega
      rw [b1, b2]
      simp only [Bool.not_false, Bool.and_self, if_true]
      exact ⟨fun h => absurd h r8, fun h => by omega⟩
theorem bare_name (T : List Acc) (u : ByteArray) (n p : Nd) (tk : Bool) (nm : ByteArray) : wstE T u n p.bare tk { keepW with nm := nm } = 0 ↔ (nm.toList = [] ∨ nm.toList = n.name.toList) := by
  have h := firstE_one (r := whyNot T u n p.bare tk { keepW with nm := nm }) (t := tkn { keepW with nm := nm } n) (k := 9) (by omega) (fun j hj => by
    show (!eqk (Wn.rc { keepW with nm := nm }) keepR j && _) = false
    have : eqk (Wn.rc { keepW with nm := nm }) keepR j = true := by
      have h8 : j ≠ 9 := hj
      unfold eqk
      split <;> first | rfl | (simp [keepW, keepR, Wn.rc]; done) | (exfalso; omega)
    rw [this]; rfl)
  unfold wstE
  rw [h]
  have e9 : tkn { keepW with nm := nm } n 9 = (!(nm.toList == (⟨#[]⟩ : ByteArray).toList) && !(nm.toList == n.name.toList)) := rfl
  have e0 : (⟨#[]⟩ : ByteArray).toList = [] := by kernel_rfl
  have r9 : whyNot T u n p.bare tk { keepW with nm := nm } 9 ≠ 0 := by
    show rName T u n p.bare tk nm ≠ 0
    unfold rName
    rw [bare_two]
    split
    · decide
    · simp
  rw [e9, e0]
  by_cases h1 : nm.toList = []
  · simp [h1]
  · by_cases h2 : nm.toList = n.name.toList
    · simp [h2]
    · have b1 : (nm.toList == []) = false := by simp [h1]
      have b2 : (nm.toList == n.name.toList) = false := by simp [h2]
      rw [b1, b2]
      simp only [Bool.not_false, Bool.and_self, if_true]
      exact ⟨fun h => absurd h r9, fun h => by rcases h with h | h; exact absurd h h1; exact absurd h h2⟩
end Ru
end Go.Proofs.YtahjmpfjidijaaaGreatDoor
