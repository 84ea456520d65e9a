/- What pick, char and spoil of the law do. -/
import Derived.Test.YtfdbpbhihccgbaaCat
import Derived.Test.YtfdbpbhihccgbaaRop

section
namespace Go.Proofs.Ytfdbpbhihccgbaa.Mad
set_option linter.unusedVariables false
open Go.PlainAid Go.Proofs.Ytfdbpbhihccgbaa.Utf

/-- A character's bytes, by its number. -/
def chb (n : Nat) : List UInt8 :=
  if n < 128 then [UInt8.ofNat n] else if n < 2048 then [UInt8.ofNat (192 + n / 64), UInt8.ofNat (128 + n % 64)]
  else if n < 65536 then [UInt8.ofNat (224 + n / 4096), UInt8.ofNat (128 + n / 64 % 64), UInt8.ofNat (128 + n % 64)]
  else [UInt8.ofNat (240 + n / 262144), UInt8.ofNat (128 + n / 4096 % 64), UInt8.ofNat (128 + n / 64 % 64), UInt8.ofNat (128 + n % 64)]
structure Num (n : Nat) : Prop where
  lo : 1 ≤ n
  hi : n ≤ 1114111
  no : n < 55296 ∨ 57343 < n
theorem chb_length (n : Nat) : 1 ≤ (chb n).length ∧ (chb n).length ≤ 4 := by
  unfold chb
  repeat' split
  all_goals simp
/-- These bytes stand at this place. -/
def Stands (t : ByteArray) (p : Nat) (l : List UInt8) : Prop := ∀ k (h : k < l.length), p + k < t.size ∧ bt t (p + k) = (l[k].toNat : Int)

theorem char_there {t : ByteArray} {p n : Nat} (hn : Num n) (h : Stands t p (chb n)) : Ch t p = (chb n).length ∧ bt t p ≠ 0 ∧ (bt t p < 128 ∨ 194 ≤ bt t p) := by
  obtain ⟨a1, a2, a3⟩ := hn
  unfold chb at h ⊢
  by_cases c0 : n < 128
  · rw [if_pos c0] at h ⊢
    have b0 := h 0 (by simp)
    simp at b0
    rw [Ch_one (by omega) (by omega)]
    exact ⟨rfl, by omega, by omega⟩
  rw [if_neg c0] at h ⊢
  by_cases c1 : n < 2048
  · rw [if_pos c1] at h ⊢
    have b0 := h 0 (by simp); have b1 := h 1 (by simp)
    simp at b0 b1
    rw [Ch_two (by omega) (by omega) (by omega) (by omega) (by omega)]
    exact ⟨rfl, by omega, by omega⟩
  rw [if_neg c1] at h ⊢
  by_cases c2 : n < 65536
  · rw [if_pos c2] at h ⊢
    have b0 := h 0 (by simp); have b1 := h 1 (by simp); have b2 := h 2 (by simp)
    simp at b0 b1 b2
    rw [Ch_three (by omega) (by omega) (by omega) (by omega) (by omega) (by omega) (by omega) (by omega) (by omega)]
    exact ⟨rfl, by omega, by omega⟩
  · rw [if_neg c2] at h ⊢
    have b0 := h 0 (by simp); have b1 := h 1 (by simp); have b2 := h 2 (by simp); have b3 := h 3 (by simp)
    simp at b0 b1 b2 b3
    rw [Ch_four (by omega) (by omega) (by omega) (by omega) (by omega) (by omega) (by omega) (by omega) (by omega) (by omega) (by omega)]
    exact ⟨rfl, by omega, by omega⟩

/-- A text as a list of bytes. -/
def tx (l : List UInt8) : ByteArray := ⟨l.toArray⟩
theorem tx_size (l : List UInt8) : (tx l).size = l.length := by simp [tx, ByteArray.size]
theorem tx_bt (l : List UInt8) (k : Nat) (h : k < l.length) : bt (tx l) k = (l[k].toNat : Int) := by
  rw [← get_bt (tx l) k (by rw [tx_size]; exact h)]
  rfl
theorem tx_append (a b : List UInt8) : tx a ++ tx b = tx (a ++ b) := by
  apply ByteArray.ext
  simp [tx]
theorem stands_mid (a b c : List UInt8) : Stands (tx (a ++ b ++ c)) a.length b := fun k h => by
  have h2 : a.length + k < (a ++ b ++ c).length := by simp; omega
  refine ⟨by rw [tx_size]; exact h2, ?_⟩
  rw [tx_bt _ _ h2]
  congr 2
  rw [List.getElem_append_left (by simp; omega), List.getElem_append_right (by omega)]
  simp

/-- The characters of these numbers, one behind the other. -/
def flat (l : List Nat) : List UInt8 := l.flatMap chb
theorem flat_append (a b : List Nat) : flat (a ++ b) = flat a ++ flat b := by simp [flat]
theorem flat_cons (a : Nat) (b : List Nat) : flat (a :: b) = chb a ++ flat b := by simp [flat]

theorem at_char {a b : List Nat} {n : Nat} (hn : Num n) : Ch (tx (flat (a ++ n :: b))) (flat a).length = (chb n).length ∧ bt (tx (flat (a ++ n :: b))) (flat a).length ≠ 0 := by
  have e : flat (a ++ n :: b) = flat a ++ chb n ++ flat b := by rw [flat_append, flat_cons, List.append_assoc]
  rw [e]
  have := char_there hn (stands_mid (flat a) (chb n) (flat b))
  exact ⟨this.1, this.2.1⟩

theorem B_flat : ∀ (b a : List Nat), (∀ n ∈ b, Num n) → B (tx (flat (a ++ b))) (flat a).length = (flat (a ++ b)).length
  | [], a, _ => by rw [List.append_nil]; rw [B_end (by rw [tx_size]; exact Nat.le_refl _), tx_size]
  | n :: b, a, h => by
    obtain ⟨c1, c2⟩ := at_char (a := a) (b := b) (h n (by simp))
    have hl := chb_length n
    have hs : (flat a).length < (tx (flat (a ++ n :: b))).size := by rw [tx_size, flat_append, flat_cons]; simp; omega
    rw [B_next hs (by omega) c2, c1]
    have ih := B_flat b (a ++ [n]) (fun m hm => h m (by simp [hm]))
    have e1 : a ++ [n] ++ b = a ++ n :: b := by simp
    have e2 : (flat (a ++ [n])).length = (flat a).length + (chb n).length := by rw [flat_append]; simp [flat]
    rw [e1, e2] at ih
    exact ih
theorem good_flat (l : List Nat) (h : ∀ n ∈ l, Num n) : good (tx (flat l)) = true := by
  rw [good_iff, tx_size]
  exact B_flat l [] h

/-- Where the characters end, from a place on. -/
def bds : Nat → List Nat → List Nat
  | _, [] => []
  | p, n :: l => (p + (chb n).length) :: bds (p + (chb n).length) l
/-- The last one of these that is no greater. -/
def lastLe (most : Int) (e : Nat) (l : List Nat) : Nat := l.foldl (fun (e x : Nat) => if (x : Int) ≤ most then x else e) e
theorem bds_gt : ∀ (l : List Nat) (p x : Nat), x ∈ bds p l → p < x
  | n :: l, p, x, h => by
    have := chb_length n
    simp only [bds, List.mem_cons] at h
    rcases h with rfl | h
    · omega
    · have := bds_gt l _ x h; omega
theorem lastLe_none (most : Int) : ∀ (l : List Nat) (e : Nat), (∀ x ∈ l, most < (x : Int)) → lastLe most e l = e
  | [], e, _ => rfl
  | x :: l, e, h => by
    show lastLe most (if (x : Int) ≤ most then x else e) l = e
    rw [if_neg (by have := h x (by simp); omega)]
    exact lastLe_none most l e (fun y hy => h y (by simp [hy]))

theorem Ct_flat (most : Int) : ∀ (b a : List Nat) (f : Nat), (∀ n ∈ b, Num n) → ((flat a).length : Int) ≤ most → (flat (a ++ b)).length ≤ (flat a).length + f →
    Ct (tx (flat (a ++ b))) most f (flat a).length = lastLe most (flat a).length (bds (flat a).length b)
  | [], a, f, _, _, _ => by rw [List.append_nil]; show Ct (tx (flat a)) most f (flat a).length = (flat a).length; exact Ct_end (by rw [tx_size]; exact Nat.le_refl _)
  | n :: b, a, 0, h, hm, hf => by
    have hl := chb_length n
    rw [flat_append, flat_cons] at hf
    simp at hf
    omega
  | n :: b, a, f + 1, h, hm, hf => by
    obtain ⟨c1, c2⟩ := at_char (a := a) (b := b) (h n (by simp))
    have hl := chb_length n
    have hs : (flat a).length < (tx (flat (a ++ n :: b))).size := by rw [tx_size, flat_append, flat_cons]; simp; omega
    have e1 : a ++ [n] ++ b = a ++ n :: b := by simp
    have e2 : (flat (a ++ [n])).length = (flat a).length + (chb n).length := by rw [flat_append]; simp [flat]
    have emax : max 1 (Ch (tx (flat (a ++ n :: b))) (flat a).length) = (chb n).length := by omega
    show _ = lastLe most (if (((flat a).length + (chb n).length : Nat) : Int) ≤ most then (flat a).length + (chb n).length else (flat a).length) (bds ((flat a).length + (chb n).length) b)
    by_cases hk : (((flat a).length + (chb n).length : Nat) : Int) ≤ most
    · rw [Ct_next hs (by rw [emax]; omega), emax, if_pos hk]
      have ih := Ct_flat most b (a ++ [n]) f (fun m hm => h m (by simp [hm])) (by rw [e2]; exact hk) (by rw [e1, e2]; omega)
      rw [e1, e2] at ih
      exact ih
    · rw [Ct_stop (by rw [emax]; omega), if_neg hk, lastLe_none _ _ _ (fun x hx => by have := bds_gt b _ x hx; omega)]

/-- CUT WHERE THEY END. -/
theorem cut_flat (l : List Nat) (h : ∀ n ∈ l, Num n) (most : Int) : cut (tx (flat l)) most = lastLe most 0 (0 :: bds 0 l) := by
  show _ = lastLe most (if ((0 : Nat) : Int) ≤ most then 0 else 0) (bds 0 l)
  have e0 : (if ((0 : Nat) : Int) ≤ most then 0 else 0) = 0 := by split <;> rfl
  rw [e0]
  by_cases hm : 0 ≤ most
  · exact Ct_flat most l [] _ h hm (by rw [tx_size]; show (flat ([] ++ l)).length ≤ (flat []).length + (flat l).length; simp)
  · rw [lastLe_none _ _ _ (fun x hx => by omega)]
    exact Ct_stop (by omega)

/-- What is no character. -/
def spl (k : Nat) : List UInt8 :=
  match k with
  | 0 => [0] | 1 => [128] | 2 => [192, 128] | 3 => [193, 191] | 4 => [224, 159, 191] | 5 => [237, 160, 128] | 6 => [237, 191, 191]
  | 7 => [240, 143, 191, 191] | 8 => [244, 144, 128, 128] | 9 => [245, 128, 128, 128] | 10 => [226, 130] | _ => [240, 159, 152]

theorem sp_0 {t : ByteArray} (h : Stands t 0 [0]) (ha : t.size = 1 ∨ bt t 1 < 128 ∨ 194 ≤ bt t 1) : Ch t 0 = 0 ∨ bt t 0 = 0 := by
  have b0 := h 0 (by simp)
  simp at b0
  right; omega
theorem sp_1 {t : ByteArray} (h : Stands t 0 [128]) (ha : t.size = 1 ∨ bt t 1 < 128 ∨ 194 ≤ bt t 1) : Ch t 0 = 0 ∨ bt t 0 = 0 := by
  have b0 := h 0 (by simp)
  simp at b0
  have z := Ch_zero (s := t) (a := 0)
  simp only [Nat.zero_add] at z
  exact Or.inl (z (by omega) (by omega) (by omega) (by omega))
theorem sp_2 {t : ByteArray} (h : Stands t 0 [192, 128]) (ha : t.size = 2 ∨ bt t 2 < 128 ∨ 194 ≤ bt t 2) : Ch t 0 = 0 ∨ bt t 0 = 0 := by
  have b0 := h 0 (by simp)
  have b1 := h 1 (by simp)
  simp at b0 b1
  have z := Ch_zero (s := t) (a := 0)
  simp only [Nat.zero_add] at z
  exact Or.inl (z (by omega) (by omega) (by omega) (by omega))
theorem sp_3 {t : ByteArray} (h : Stands t 0 [193, 191]) (ha : t.size = 2 ∨ bt t 2 < 128 ∨ 194 ≤ bt t 2) : Ch t 0 = 0 ∨ bt t 0 = 0 := by
  have b0 := h 0 (by simp)
  have b1 := h 1 (by simp)
  simp at b0 b1
  have z := Ch_zero (s := t) (a := 0)
  simp only [Nat.zero_add] at z
  exact Or.inl (z (by omega) (by omega) (by omega) (by omega))
theorem sp_4 {t : ByteArray} (h : Stands t 0 [224, 159, 191]) (ha : t.size = 3 ∨ bt t 3 < 128 ∨ 194 ≤ bt t 3) : Ch t 0 = 0 ∨ bt t 0 = 0 := by
  have b0 := h 0 (by simp)
  have b1 := h 1 (by simp)
  have b2 := h 2 (by simp)
  simp at b0 b1 b2
  have z := Ch_zero (s := t) (a := 0)
  simp only [Nat.zero_add] at z
  exact Or.inl (z (by omega) (by omega) (by omega) (by omega))
theorem sp_5 {t : ByteArray} (h : Stands t 0 [237, 160, 128]) (ha : t.size = 3 ∨ bt t 3 < 128 ∨ 194 ≤ bt t 3) : Ch t 0 = 0 ∨ bt t 0 = 0 := by
  have b0 := h 0 (by simp)
  have b1 := h 1 (by simp)
  have b2 := h 2 (by simp)
  simp at b0 b1 b2
  have z := Ch_zero (s := t) (a := 0)
  simp only [Nat.zero_add] at z
  exact Or.inl (z (by omega) (by omega) (by omega) (by omega))
theorem sp_6 {t : ByteArray} (h : Stands t 0 [237, 191, 191]) (ha : t.size = 3 ∨ bt t 3 < 128 ∨ 194 ≤ bt t 3) : Ch t 0 = 0 ∨ bt t 0 = 0 := by
  have b0 := h 0 (by simp)
  have b1 := h 1 (by simp)
  have b2 := h 2 (by simp)
  simp at b0 b1 b2
  have z := Ch_zero (s := t) (a := 0)
  simp only [Nat.zero_add] at z
  exact Or.inl (z (by omega) (by omega) (by omega) (by omega))
theorem sp_7 {t : ByteArray} (h : Stands t 0 [240, 143, 191, 191]) (ha : t.size = 4 ∨ bt t 4 < 128 ∨ 194 ≤ bt t 4) : Ch t 0 = 0 ∨ bt t 0 = 0 := by
  have b0 := h 0 (by simp)
  have b1 := h 1 (by simp)
  have b2 := h 2 (by simp)
  have b3 := h 3 (by simp)
  simp at b0 b1 b2 b3
  have z := Ch_zero (s := t) (a := 0)
  simp only [Nat.zero_add] at z
  exact Or.inl (z (by omega) (by omega) (by omega) (by omega))
theorem sp_8 {t : ByteArray} (h : Stands t 0 [244, 144, 128, 128]) (ha : t.size = 4 ∨ bt t 4 < 128 ∨ 194 ≤ bt t 4) : Ch t 0 = 0 ∨ bt t 0 = 0 := by
  have b0 := h 0 (by simp)
  have b1 := h 1 (by simp)
  have b2 := h 2 (by simp)
  have b3 := h 3 (by simp)
  simp at b0 b1 b2 b3
  have z := Ch_zero (s := t) (a := 0)
  simp only [Nat.zero_add] at z
  exact Or.inl (z (by omega) (by omega) (by omega) (by omega))
theorem sp_9 {t : ByteArray} (h : Stands t 0 [245, 128, 128, 128]) (ha : t.size = 4 ∨ bt t 4 < 128 ∨ 194 ≤ bt t 4) : Ch t 0 = 0 ∨ bt t 0 = 0 := by
  have b0 := h 0 (by simp)
  have b1 := h 1 (by simp)
  have b2 := h 2 (by simp)
  have b3 := h 3 (by simp)
  simp at b0 b1 b2 b3
  have z := Ch_zero (s := t) (a := 0)
  simp only [Nat.zero_add] at z
  exact Or.inl (z (by omega) (by omega) (by omega) (by omega))
theorem sp_10 {t : ByteArray} (h : Stands t 0 [226, 130]) (ha : t.size = 2 ∨ bt t 2 < 128 ∨ 194 ≤ bt t 2) : Ch t 0 = 0 ∨ bt t 0 = 0 := by
  have b0 := h 0 (by simp)
  have b1 := h 1 (by simp)
  simp at b0 b1
  have z := Ch_zero (s := t) (a := 0)
  simp only [Nat.zero_add] at z
  exact Or.inl (z (by omega) (by omega) (by omega) (by omega))
theorem sp_11 {t : ByteArray} (h : Stands t 0 [240, 159, 152]) (ha : t.size = 3 ∨ bt t 3 < 128 ∨ 194 ≤ bt t 3) : Ch t 0 = 0 ∨ bt t 0 = 0 := by
  have b0 := h 0 (by simp)
  have b1 := h 1 (by simp)
  have b2 := h 2 (by simp)
  simp at b0 b1 b2
  have z := Ch_zero (s := t) (a := 0)
  simp only [Nat.zero_add] at z
  exact Or.inl (z (by omega) (by omega) (by omega) (by omega))
theorem spoilt (k : Nat) (l : List Nat) (h : ∀ n ∈ l, Num n) : good (tx (spl k ++ flat l)) = false := by
  have hz : (tx (spl k ++ flat l)).size = (spl k).length + (flat l).length := by rw [tx_size]; simp
  have hst : Stands (tx (spl k ++ flat l)) 0 (spl k) := by
    have := stands_mid [] (spl k) (flat l)
    simpa using this
  have hnext : (flat l) = [] ∨ (∃ x y, flat l = x :: y ∧ ((x.toNat : Int) < 128 ∨ 194 ≤ (x.toNat : Int))) := by
    cases l with
    | nil => left; rfl
    | cons n l =>
      right
      have hn := h n (by simp)
      have hc := char_there hn (stands_mid [] (chb n) (flat l))
      have hl := chb_length n
      obtain ⟨x, y, e⟩ : ∃ x y, chb n = x :: y := by
        cases hq : chb n with
        | nil => rw [hq] at hl; simp at hl
        | cons x y => exact ⟨x, y, rfl⟩
      refine ⟨x, y ++ flat l, by rw [flat_cons, e]; rfl, ?_⟩
      have e2 := tx_bt ([] ++ chb n ++ flat l) 0 (by rw [e]; simp)
      have e3 : ([] ++ chb n ++ flat l)[0]'(by rw [e]; simp) = x := by simp [e]
      rw [e3] at e2
      have := hc.2.2
      simp only [List.length_nil] at this
      omega
  have hafter : (tx (spl k ++ flat l)).size = (spl k).length ∨ (bt (tx (spl k ++ flat l)) (spl k).length < 128 ∨ 194 ≤ bt (tx (spl k ++ flat l)) (spl k).length) := by
    rcases hnext with e | ⟨x, y, e, hx⟩
    · left; rw [hz, e]; rfl
    · right
      have e2 := tx_bt (spl k ++ flat l) (spl k).length (by rw [e]; simp)
      rw [e2]
      have e3 : (spl k ++ flat l)[(spl k).length]'(by rw [e]; simp) = x := by
        rw [List.getElem_append_right (Nat.le_refl _)]; simp [e]
      rw [e3]; exact hx
  have hpos : 0 < (tx (spl k ++ flat l)).size := by
    rw [hz]; unfold spl; split <;> simp <;> omega
  have key : Ch (tx (spl k ++ flat l)) 0 = 0 ∨ bt (tx (spl k ++ flat l)) 0 = 0 := by
    generalize tx (spl k ++ flat l) = t at *
    match k, hst, hafter with
    | 0, hst, hafter => exact sp_0 hst hafter
    | 1, hst, hafter => exact sp_1 hst hafter
    | 2, hst, hafter => exact sp_2 hst hafter
    | 3, hst, hafter => exact sp_3 hst hafter
    | 4, hst, hafter => exact sp_4 hst hafter
    | 5, hst, hafter => exact sp_5 hst hafter
    | 6, hst, hafter => exact sp_6 hst hafter
    | 7, hst, hafter => exact sp_7 hst hafter
    | 8, hst, hafter => exact sp_8 hst hafter
    | 9, hst, hafter => exact sp_9 hst hafter
    | 10, hst, hafter => exact sp_10 hst hafter
    | (q + 11), hst, hafter => exact sp_11 hst hafter
  rw [← Bool.not_eq_true, good_iff, B_here hpos key]
  omega
end Go.Proofs.Ytfdbpbhihccgbaa.Mad
end

namespace Go.Proofs.Ytfdbpbhihccgbaa.Mad
set_option linter.unusedVariables false
open Go.RowKit Go.PlainAid Go.Proofs.Ytfdbpbhihccgbaa.Utf Go.Proofs.Ytfdbpbhihccgbaa.Txt

/-- Which of n things a raw number speaks of. -/
def pk (c : Int) (n : Nat) : Nat := ((if c < 0 then -(c + 1) else c) % n).toNat
theorem pk_lt (c : Int) (n : Nat) (h : 0 < n) : pk c n < n := by
  unfold pk
  have := Int.emod_lt_of_pos (if c < 0 then -(c + 1) else c) (show (0 : Int) < n by omega)
  have := Int.emod_nonneg (if c < 0 then -(c + 1) else c) (show (n : Int) ≠ 0 by omega)
  omega
theorem pick_any (c x : Int) (n : Nat) (w : World) (hx : x = n) (hn : 1 ≤ n) (hn2 : n ≤ 1152921504606846976) (h1 : -9223372036854775808 ≤ c) (h2 : c ≤ 9223372036854775807) :
    Calls Try.prog 9 #[.int .i64 c, .int .i64 x] w fun e w' => e = .returned (.int .i64 (pk c n)) ∧ w = w' := by
  subst hx
  have hp : (0 : Int) < (n : Int) := by omega
  have h0 : ((n : Int) == 0) = false := by simp; omega
  by_cases hc : c < 0
  · have e : (pk c n : Int) = (-(c + 1)) % (n : Int) := by
      unfold pk; rw [if_pos hc]
      have := Int.emod_nonneg (-(c + 1)) (show (n : Int) ≠ 0 by omega)
      omega
    rw [e]
    clear e
    go_enter Try.func9, Try.ntmps9
    go_wp2_with fail
    go_ret
    refine ⟨ret_int ?_, rfl⟩
    rw [← Int.neg_tmod, Int.tmod_eq_emod_of_nonneg (by omega)]
  · have e : (pk c n : Int) = c % (n : Int) := by
      unfold pk; rw [if_neg hc]
      have := Int.emod_nonneg c (show (n : Int) ≠ 0 by omega)
      omega
    rw [e]
    clear e
    go_enter Try.func9, Try.ntmps9
    go_wp2_with fail
    go_ret
    exact ⟨rfl, rfl⟩

end Go.Proofs.Ytfdbpbhihccgbaa.Mad
