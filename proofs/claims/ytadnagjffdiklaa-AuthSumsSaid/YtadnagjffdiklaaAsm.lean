/- The mathematics of a key's sum: each step undoes, whatever the number; so sums over lists of which one number alone is another one differ. No program's run. -/
import Derived.Lib.Hide
namespace Go.Proofs.Ytadnagjffdiklaa.Asm
set_option linter.unusedVariables false

def top : Nat := 18446744073709551616
/-- A step. -/
def stp (h n : Nat) : Nat := let x := (h ^^^ n) * 11800147728694460525 % top; x ^^^ (x / 536870912)
theorem xor_lt {a b : Nat} (ha : a < top) (hb : b < top) : a ^^^ b < top := by
  unfold top at *
  exact Nat.xor_lt_two_pow (n := 64) (by omega) (by omega)
theorem stp_lt (h n : Nat) : stp h n < top := by
  have hx : (h ^^^ n) * 11800147728694460525 % top < top := Nat.mod_lt _ (by decide)
  exact xor_lt hx (Nat.lt_of_le_of_lt (Nat.div_le_self _ _) hx)

/-- y = x ^ (x >> 29) tells x. -/
theorem shift_back (x : Nat) (hx : x < top) : (x ^^^ (x / 536870912)) ^^^ ((x ^^^ (x / 536870912)) / 536870912) ^^^ ((x ^^^ (x / 536870912)) / 288230376151711744) = x := by
  have e1 : ∀ y : Nat, y / 536870912 = y >>> 29 := fun y => by rw [Nat.shiftRight_eq_div_pow]
  have e2 : ∀ y : Nat, y / 288230376151711744 = y >>> 58 := fun y => by rw [Nat.shiftRight_eq_div_pow]
  rw [e2, e1, e1]
  refine Nat.eq_of_testBit_eq fun i => ?_
  simp only [Nat.testBit_xor, Nat.testBit_shiftRight]
  have hz : x.testBit (29 + (58 + i)) = false := Nat.testBit_lt_two_pow (by
    unfold top at hx
    have : 2 ^ 64 ≤ 2 ^ (29 + (58 + i)) := Nat.pow_le_pow_right (by decide) (by omega)
    omega)
  have ea : 29 + (29 + i) = 58 + i := by omega
  rw [ea, hz]
  cases x.testBit i <;> cases x.testBit (29 + i) <;> cases x.testBit (58 + i) <;> rfl
theorem shift_inj {x y : Nat} (hx : x < top) (hy : y < top) (h : x ^^^ (x / 536870912) = y ^^^ (y / 536870912)) : x = y := by
  rw [← shift_back x hx, ← shift_back y hy, h]

theorem mul_back (x : Nat) (hx : x < top) : (x * 11800147728694460525 % top) * 13132758862238501221 % top = x := by
  rw [Nat.mod_mul_mod, Nat.mul_assoc, Nat.mul_mod]
  have e : 11800147728694460525 * 13132758862238501221 % top = 1 := by decide
  rw [e, Nat.mul_one, Nat.mod_mod]
  exact Nat.mod_eq_of_lt hx
theorem mul_inj {x y : Nat} (hx : x < top) (hy : y < top) (h : x * 11800147728694460525 % top = y * 11800147728694460525 % top) : x = y := by
  rw [← mul_back x hx, ← mul_back y hy, h]

theorem stp_inj {a b m n : Nat} (ha : a < top) (hb : b < top) (hm : m < top) (hn : n < top) (h : stp a m = stp b n) : a ^^^ m = b ^^^ n :=
  mul_inj (xor_lt ha hm) (xor_lt hb hn) (shift_inj (Nat.mod_lt _ (by decide)) (Nat.mod_lt _ (by decide)) h)
theorem xor_right {a b n : Nat} (h : a ^^^ n = b ^^^ n) : a = b := by
  have := congrArg (· ^^^ n) h
  simpa [Nat.xor_assoc] using this
theorem xor_left {a m n : Nat} (h : a ^^^ m = a ^^^ n) : m = n := by
  rw [Nat.xor_comm a m, Nat.xor_comm a n] at h
  exact xor_right h

theorem foldl_snoc (f : Nat → Nat → Nat) (h a : Nat) (l : List Nat) : (l ++ [a]).foldl f h = f (l.foldl f h) a := by simp
/-- The steps over numbers. -/
def run (h : Nat) (l : List Nat) : Nat := l.foldl stp h
theorem run_cons (h a : Nat) (l : List Nat) : run h (a :: l) = run (stp h a) l := List.foldl_cons
theorem run_append (h : Nat) (k l : List Nat) : run h (k ++ l) = run (run h k) l := List.foldl_append
theorem run_snoc (h a : Nat) (l : List Nat) : run h (l ++ [a]) = stp (run h l) a := foldl_snoc stp h a l
theorem run_lt : ∀ (l : List Nat) (h : Nat), h < top → run h l < top
  | [], _, hh => hh
  | a :: l, h, _ => run_lt l _ (stp_lt h a)
theorem run_inj : ∀ (l : List Nat) (a b : Nat), a < top → b < top → (∀ x ∈ l, x < top) → run a l = run b l → a = b
  | [], _, _, _, _, _, h => h
  | x :: l, a, b, ha, hb, hl, h => by
    have := run_inj l _ _ (stp_lt a x) (stp_lt b x) (fun y hy => hl y (by simp [hy])) h
    exact xor_right (stp_inj ha hb (hl x (by simp)) (hl x (by simp)) this)
/-- One number alone is another one. -/
theorem run_set : ∀ (l : List Nat) (h i n : Nat) (hi : i < l.length), h < top → (∀ x ∈ l, x < top) → n < top → run h l = run h (l.set i n) → l[i] = n
  | [], _, _, _, hi, _, _, _, _ => by simp at hi
  | x :: l, h, 0, n, hi, hh, hl, hn, e => by
    have hl' : ∀ y ∈ l, y < top := fun y hy => hl y (by simp [hy])
    have e2 : run (stp h x) l = run (stp h n) l := e
    exact xor_left (stp_inj hh hh (hl x (by simp)) hn (run_inj l _ _ (stp_lt h x) (stp_lt h n) hl' e2))
  | x :: l, h, i + 1, n, hi, hh, hl, hn, e => by
    have := run_set l (stp h x) i n (by simpa using hi) (stp_lt h x) (fun y hy => hl y (by simp [hy])) hn e
    simpa using this

/-- What a key's sum goes through. -/
def nums (key : List UInt8) (l : List Nat) : List Nat := (key.map fun b => b.toNat + 1) ++ [key.length] ++ l ++ [l.length]
def sum (key : List UInt8) (l : List Nat) : Nat := run 7880330927811272263 (nums key l)
theorem sum_lt (key : List UInt8) (l : List Nat) : sum key l < top := run_lt _ _ (by decide)
theorem nums_lt {key : List UInt8} {l : List Nat} (hk : key.length < top) (hl : ∀ x ∈ l, x < top) (hn : l.length < top) : ∀ x ∈ nums key l, x < top := by
  intro x hx
  unfold nums at hx
  simp only [List.mem_append, List.mem_map, List.mem_singleton] at hx
  rcases hx with ((⟨b, _, rfl⟩ | rfl) | hx) | rfl
  · have := b.toNat_lt; unfold top; omega
  · exact hk
  · exact hl x hx
  · exact hn
/-- Two lists that differ in one place alone. -/
theorem sum_list (key : List UInt8) (l : List Nat) (i n : Nat) (hi : i < l.length) (hk : key.length < top) (hl : ∀ x ∈ l, x < top) (hn : l.length < top) (hnn : n < top) :
    (sum key l = sum key (l.set i n)) ↔ l[i] = n := by
  constructor
  · intro h
    have e : nums key (l.set i n) = (nums key l).set (key.length + 1 + i) n := by
      unfold nums
      rw [List.length_set, List.set_append_left _ _ (by simp; omega), List.set_append_right _ _ (by simp)]
      simp
    unfold sum at h
    rw [e] at h
    have := run_set (nums key l) _ (key.length + 1 + i) n (by unfold nums; simp; omega) (by decide) (nums_lt hk hl hn) hnn h
    unfold nums at this
    rw [List.getElem_append_left (by simp; omega), List.getElem_append_right (by simp)] at this
    simpa using this
  · intro h
    have : l.set i n = l := by rw [← h]; exact List.set_getElem_self hi
    rw [this]
/-- Two keys that differ in one byte alone. -/
theorem sum_key (key : List UInt8) (l : List Nat) (j : Nat) (c : UInt8) (hj : j < key.length) (hk : key.length < top) (hl : ∀ x ∈ l, x < top) (hn : l.length < top) :
    (sum key l = sum (key.set j c) l) ↔ key[j] = c := by
  constructor
  · intro h
    have e : nums (key.set j c) l = (nums key l).set j (c.toNat + 1) := by
      unfold nums
      rw [List.length_set, List.set_append_left _ _ (by simp; omega), List.set_append_left _ _ (by simp; omega), List.set_append_left _ _ (by simpa using hj), List.map_set]
    unfold sum at h
    rw [e] at h
    have hc := c.toNat_lt
    have := run_set (nums key l) _ j (c.toNat + 1) (by unfold nums; simp; omega) (by decide) (nums_lt hk hl hn) (by unfold top; omega) h
    unfold nums at this
    rw [List.getElem_append_left (by simp; omega), List.getElem_append_left (by simp; omega), List.getElem_append_left (by simpa using hj), List.getElem_map] at this
    exact UInt8.toNat_inj.1 (by omega)
  · intro h
    have : key.set j c = key := by rw [← h]; exact List.set_getElem_self hj
    rw [this]
/-- Three numbers. -/
theorem sum_three (a b c : Nat) (ha : a < top) (hb : b < top) (hc : c < top) (i n : Nat) (hi : i < 3) (hn : n < top) (h : [a, b, c][i] ≠ n) : sum [] [a, b, c] ≠ sum [] ([a, b, c].set i n) := fun e =>
  h ((sum_list [] [a, b, c] i n (by simpa using hi) (by decide) (by intro x hx; simp at hx; rcases hx with rfl | rfl | rfl <;> assumption) (by simp [top]) hn).1 e)
end Go.Proofs.Ytadnagjffdiklaa.Asm
