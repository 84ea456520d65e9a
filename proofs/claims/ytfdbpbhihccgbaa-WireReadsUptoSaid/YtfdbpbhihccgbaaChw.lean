/- What pick, char and spoil of the law do. -/
import Derived.Test.YtfdbpbhihccgbaaUtf
import Derived.Test.YtfdbpbhihccgbaaRop

section
namespace Go.Proofs.Ytfdbpbhihccgbaa.Utf
open Go.PlainAid

/-- The place of the first bad piece from p on. -/
def B (s : ByteArray) (p : Nat) : Nat := Bd s s.size p
theorem Bd_fuel (s : ByteArray) : ∀ (n m p : Nat), s.size ≤ p + n → s.size ≤ p + m → Bd s n p = Bd s m p
  | 0, m, p, h, _ => by rw [Bd_end s m p (by omega)]; rfl
  | n + 1, 0, p, _, h => by rw [Bd_end s (n + 1) p (by omega)]; rfl
  | n + 1, m + 1, p, h, k => by
    unfold Bd
    by_cases hp : p < s.size
    · rw [if_pos hp, if_pos hp]
      by_cases h0 : Ch s p = 0 ∨ bt s p = 0
      · rw [if_pos h0, if_pos h0]
      · rw [if_neg h0, if_neg h0]
        exact Bd_fuel s n m _ (by omega) (by omega)
    · rw [if_neg hp, if_neg hp]
theorem B_end {s : ByteArray} {p : Nat} (h : s.size ≤ p) : B s p = s.size := Bd_end s _ p h
theorem B_here {s : ByteArray} {p : Nat} (h : p < s.size) (h0 : Ch s p = 0 ∨ bt s p = 0) : B s p = p := Bd_here h (by omega) h0
theorem B_next {s : ByteArray} {p : Nat} (h : p < s.size) (h0 : Ch s p ≠ 0) (h1 : bt s p ≠ 0) : B s p = B s (p + Ch s p) := by
  unfold B
  rw [Bd_fuel s s.size (s.size + 1) p (by omega) (by omega), Bd_next h h0 h1]
theorem B_bad (s : ByteArray) : bad s = B s 0 := rfl
theorem B_le (s : ByteArray) (p : Nat) : B s p ≤ s.size := Bd_le s _ _
theorem good_iff (s : ByteArray) : good s = true ↔ B s 0 = s.size := by unfold good; rw [decide_eq_true_iff]; rfl
/-- Good from p on: the piece at p is none of the bad ones. -/
theorem B_piece {s : ByteArray} {p : Nat} (h : p < s.size) (hg : B s p = s.size) : Ch s p ≠ 0 ∧ bt s p ≠ 0 := by
  by_cases h0 : Ch s p = 0 ∨ bt s p = 0
  · rw [B_here h h0] at hg; omega
  · omega

/-- A character stands as it stood where its bytes stand as they stood. -/
theorem Ch_same {s t : ByteArray} {p q : Nat} (hin : ∀ k, k < Ch s p → p + k < s.size → q + k < t.size ∧ bt t (q + k) = bt s (p + k)) (hc : Ch s p ≠ 0) : Ch t q = Ch s p := by
  have e0 := hin 0; have e1 := hin 1; have e2 := hin 2; have e3 := hin 3
  clear hin
  simp only [Nat.add_zero] at e0
  by_cases c0 : p < s.size ∧ bt s p ≤ 127
  · have h := Ch_one c0.1 c0.2
    rw [h] at e0 ⊢
    have e0 := e0 (by omega) (by omega)
    rw [Ch_one (by omega) (by omega)]
  by_cases c1 : (194 ≤ bt s p ∧ bt s p ≤ 223 ∧ p + 1 < s.size ∧ 128 ≤ bt s (p + 1) ∧ bt s (p + 1) ≤ 191)
  · have h := Ch_two (s := s) (a := p) (by omega) (by omega) (by omega) (by omega) (by omega)
    rw [h] at e0 e1 ⊢
    have e0 := e0 (by omega) (by omega); have e1 := e1 (by omega) (by omega)
    rw [Ch_two (by omega) (by omega) (by omega) (by omega) (by omega)]
  by_cases c2 : (224 ≤ bt s p ∧ bt s p ≤ 239 ∧ p + 1 < s.size ∧ 128 ≤ bt s (p + 1) ∧ bt s (p + 1) ≤ 191 ∧ (bt s p = 224 → 160 ≤ bt s (p + 1)) ∧ (bt s p = 237 → bt s (p + 1) ≤ 159) ∧ p + 2 < s.size ∧ 128 ≤ bt s (p + 2) ∧ bt s (p + 2) ≤ 191)
  · have h := Ch_three (s := s) (a := p) (by omega) (by omega) (by omega) (by omega) (by omega) (by omega) (by omega) (by omega) (by omega)
    rw [h] at e0 e1 e2 ⊢
    have e0 := e0 (by omega) (by omega); have e1 := e1 (by omega) (by omega); have e2 := e2 (by omega) (by omega)
    rw [Ch_three (by omega) (by omega) (by omega) (by omega) (by omega) (by omega) (by omega) (by omega) (by omega)]
  by_cases c3 : (240 ≤ bt s p ∧ bt s p ≤ 244 ∧ p + 1 < s.size ∧ 128 ≤ bt s (p + 1) ∧ bt s (p + 1) ≤ 191 ∧ (bt s p = 240 → 144 ≤ bt s (p + 1)) ∧ (bt s p = 244 → bt s (p + 1) ≤ 143) ∧ p + 2 < s.size ∧ 128 ≤ bt s (p + 2) ∧ bt s (p + 2) ≤ 191 ∧ p + 3 < s.size ∧ 128 ≤ bt s (p + 3) ∧ bt s (p + 3) ≤ 191)
  · have h := Ch_four (s := s) (a := p) (by omega) (by omega) (by omega) (by omega) (by omega) (by omega) (by omega) (by omega) (by omega) (by omega) (by omega)
    rw [h] at e0 e1 e2 e3 ⊢
    have e0 := e0 (by omega) (by omega); have e1 := e1 (by omega) (by omega); have e2 := e2 (by omega) (by omega); have e3 := e3 (by omega) (by omega)
    rw [Ch_four (by omega) (by omega) (by omega) (by omega) (by omega) (by omega) (by omega) (by omega) (by omega) (by omega) (by omega)]
  · exact absurd (Ch_zero (by omega) c1 c2 c3) hc

/-- What bytes a character has. -/
theorem Ch_bytes {s : ByteArray} {p : Nat} (h : Ch s p ≠ 0) : bt s p ≤ 244 ∧ (∀ k, 0 < k → k < Ch s p → 128 ≤ bt s (p + k) ∧ bt s (p + k) ≤ 191) ∧ p < s.size ∧ (bt s p ≤ 127 ∨ 194 ≤ bt s p) ∧ (bt s p ≤ 127 → Ch s p = 1) := by
  by_cases c0 : p < s.size ∧ bt s p ≤ 127
  · rw [Ch_one c0.1 c0.2]; exact ⟨by omega, fun k a b => by omega, by omega, by omega, by omega⟩
  by_cases c1 : (194 ≤ bt s p ∧ bt s p ≤ 223 ∧ p + 1 < s.size ∧ 128 ≤ bt s (p + 1) ∧ bt s (p + 1) ≤ 191)
  · rw [Ch_two (by omega) (by omega) (by omega) (by omega) (by omega)]
    refine ⟨by omega, fun k a b => ?_, by omega, by omega, by omega⟩
    obtain rfl : k = 1 := by omega
    omega
  by_cases c2 : (224 ≤ bt s p ∧ bt s p ≤ 239 ∧ p + 1 < s.size ∧ 128 ≤ bt s (p + 1) ∧ bt s (p + 1) ≤ 191 ∧ (bt s p = 224 → 160 ≤ bt s (p + 1)) ∧ (bt s p = 237 → bt s (p + 1) ≤ 159) ∧ p + 2 < s.size ∧ 128 ≤ bt s (p + 2) ∧ bt s (p + 2) ≤ 191)
  · rw [Ch_three (by omega) (by omega) (by omega) (by omega) (by omega) (by omega) (by omega) (by omega) (by omega)]
    refine ⟨by omega, fun k a b => ?_, by omega, by omega, by omega⟩
    obtain rfl | rfl : k = 1 ∨ k = 2 := by omega
    · omega
    · omega
  by_cases c3 : (240 ≤ bt s p ∧ bt s p ≤ 244 ∧ p + 1 < s.size ∧ 128 ≤ bt s (p + 1) ∧ bt s (p + 1) ≤ 191 ∧ (bt s p = 240 → 144 ≤ bt s (p + 1)) ∧ (bt s p = 244 → bt s (p + 1) ≤ 143) ∧ p + 2 < s.size ∧ 128 ≤ bt s (p + 2) ∧ bt s (p + 2) ≤ 191 ∧ p + 3 < s.size ∧ 128 ≤ bt s (p + 3) ∧ bt s (p + 3) ≤ 191)
  · rw [Ch_four (by omega) (by omega) (by omega) (by omega) (by omega) (by omega) (by omega) (by omega) (by omega) (by omega) (by omega)]
    refine ⟨by omega, fun k a b => ?_, by omega, by omega, by omega⟩
    obtain rfl | rfl | rfl : k = 1 ∨ k = 2 ∨ k = 3 := by omega
    · omega
    · omega
    · omega
  · exact absurd (Ch_zero (by omega) c1 c2 c3) h

/-- The pieces never step over a byte ff. -/
theorem B_ff {s : ByteArray} {q : Nat} (hq : q < s.size) (hf : bt s q = 255) : ∀ (n p : Nat), p ≤ q → q ≤ p + n → B s p ≤ q
  | 0, p, h, k => by
    obtain rfl : p = q := by omega
    have h0 : Ch s p = 0 := by
      by_cases c : Ch s p = 0
      · exact c
      · have := (Ch_bytes c).1; omega
    rw [B_here hq (Or.inl h0)]; omega
  | n + 1, p, h, k => by
    by_cases h0 : Ch s p = 0 ∨ bt s p = 0
    · rw [B_here (by omega) h0]; exact h
    · obtain ⟨c1, c2, c3, c4⟩ := Ch_bytes (s := s) (p := p) (by omega)
      by_cases hpq : p + Ch s p ≤ q
      · rw [B_next (by omega) (by omega) (by omega)]
        exact B_ff hq hf n _ hpq (by omega)
      · by_cases e : p = q
        · subst e; omega
        · have := c2 (q - p) (by omega) (by omega)
          rw [show p + (q - p) = q from by omega] at this
          omega

/-- Good texts one behind the other: what stands behind is looked at as by itself. -/
theorem B_first {a t : ByteArray} (hsz : a.size ≤ t.size) (hb : ∀ k, k < a.size → bt t k = bt a k) :
    ∀ (n p : Nat), p ≤ a.size → a.size ≤ p + n → B a p = a.size → B t p = B t a.size
  | 0, p, h, k, _ => by rw [show p = a.size from by omega]
  | n + 1, p, h, k, hg => by
    by_cases e : p = a.size
    · rw [e]
    · obtain ⟨c0, c1⟩ := B_piece (by omega) hg
      have hc : Ch t p = Ch a p := Ch_same (fun k _ h => ⟨by omega, hb _ h⟩) c0
      have hp : p < a.size := by omega
      have hle := Ch_le a p
      rw [B_next (s := t) (by omega) (by rw [hc]; exact c0) (by rw [hb p hp]; exact c1), hc]
      rw [B_next hp c0 c1] at hg
      exact B_first hsz hb n _ (by omega) (by omega) hg

theorem B_second {b t : ByteArray} {m : Nat} (hsz : t.size = m + b.size) (hb : ∀ k, k < b.size → bt t (m + k) = bt b k) :
    ∀ (n p : Nat), p ≤ b.size → b.size ≤ p + n → B t (m + p) = m + B b p
  | 0, p, h, k => by rw [B_end (by omega), B_end (by omega)]; omega
  | n + 1, p, h, k => by
    by_cases e : p < b.size
    · have hb' : ∀ k, p + k < b.size → bt t (m + p + k) = bt b (p + k) := fun k h => by rw [Nat.add_assoc]; exact hb _ h
      have hc : Ch t (m + p) = Ch b p := by
        by_cases c : Ch b p = 0
        · by_cases d : Ch t (m + p) = 0
          · rw [c, d]
          · have := Ch_same (s := t) (p := m + p) (t := b) (q := p) (fun k _ h => ⟨by omega, (hb' k (by omega)).symm⟩) d
            omega
        · exact Ch_same (fun k _ h => ⟨by omega, hb' k h⟩) c
      have hbt := hb p e
      by_cases h0 : Ch b p = 0 ∨ bt b p = 0
      · rw [B_here e h0, B_here (by omega) (by rw [hc, hbt]; exact h0)]
      · have hle := Ch_le b p
        rw [B_next e (by omega) (by omega), B_next (s := t) (by omega) (by omega) (by omega), hc, Nat.add_assoc]
        exact B_second hsz hb n _ (by omega) (by omega)
    · rw [B_end (by omega), B_end (by omega)]; omega

theorem bt_left {a b : ByteArray} {k : Nat} (h : k < a.size) : bt (a ++ b) k = bt a k := by
  rw [← get_bt (a ++ b) k (by rw [ByteArray.size_append]; omega), ← get_bt a k h, ByteArray.getElem_append_left h]
theorem bt_right {a b : ByteArray} {k : Nat} (h : k < b.size) : bt (a ++ b) (a.size + k) = bt b k := by
  rw [← get_bt (a ++ b) (a.size + k) (by rw [ByteArray.size_append]; omega), ← get_bt b k h, ByteArray.getElem_append_right (by omega)]
  simp

theorem good_append {a : ByteArray} (b : ByteArray) (h : good a = true) : good (a ++ b) = good b := by
  have h1 := (good_iff a).1 h
  have hs : (a ++ b).size = a.size + b.size := ByteArray.size_append
  have e1 := B_first (a := a) (t := a ++ b) (by omega) (fun k hk => bt_left hk) a.size 0 (by omega) (by omega) h1
  have e2 := B_second (b := b) (t := a ++ b) (m := a.size) hs (fun k hk => bt_right hk) b.size 0 (by omega) (by omega)
  rw [Nat.add_zero] at e2
  rw [Bool.eq_iff_iff, good_iff, good_iff, e1, e2, hs]
  omega
theorem good_ff (a b : ByteArray) : good (a ++ ⟨#[255]⟩ ++ b) = false := by
  have hs : (a ++ ⟨#[255]⟩ ++ b).size = a.size + 1 + b.size := by rw [ByteArray.size_append, ByteArray.size_append]; rfl
  have hf : bt (a ++ ⟨#[255]⟩ ++ b) a.size = 255 := by
    have hz : (a ++ (⟨#[255]⟩ : ByteArray)).size = a.size + 1 := by rw [ByteArray.size_append]; rfl
    rw [bt_left (by omega)]
    have := bt_right (a := a) (b := ⟨#[255]⟩) (k := 0) (by decide)
    rw [Nat.add_zero] at this
    rw [this]; rfl
  have := B_ff (s := a ++ ⟨#[255]⟩ ++ b) (q := a.size) (by omega) hf a.size 0 (by omega) (by omega)
  rw [← Bool.not_eq_true, good_iff]
  omega

theorem Ct_pos (s : ByteArray) (most : Int) : ∀ n p, p ≤ Ct s most n p
  | 0, p => Nat.le_refl _
  | n + 1, p => by
    unfold Ct
    repeat' split
    all_goals first | omega | (have := Ct_pos s most n (p + max 1 (Ch s p)); omega)
theorem Ct_most (s : ByteArray) (most : Int) : ∀ (n p : Nat), (p : Int) ≤ max 0 most → (Ct s most n p : Int) ≤ max 0 most
  | 0, p, h => h
  | n + 1, p, h => by
    unfold Ct
    split
    · split
      · exact h
      · exact Ct_most s most n _ (by omega)
    · exact h
theorem cut_most (s : ByteArray) (most : Int) : (cut s most : Int) ≤ max 0 most := Ct_most s most s.size 0 (by omega)
theorem Ct_near (s : ByteArray) (most : Int) (hm : most < (s.size : Int)) : ∀ (n p : Nat), p ≤ s.size → s.size ≤ p + n → most < (Ct s most n p : Int) + 4
  | 0, p, k, h => by show most < (p : Int) + 4; omega
  | n + 1, p, k, h => by
    have := Ch_le s p
    have := Ch_max s p
    unfold Ct
    split
    · split
      · omega
      · exact Ct_near s most hm n _ (by omega) (by omega)
    · omega
theorem cut_near (s : ByteArray) (most : Int) (hm : most < (s.size : Int)) : most < (cut s most : Int) + 4 := Ct_near s most hm _ _ (by omega) (by omega)
theorem Ct_good {a : ByteArray} {most : Int} {c : ByteArray} (hsz : c.size ≤ a.size) (hb : ∀ k, k < c.size → bt c k = bt a k) :
    ∀ n p, Ct a most n p = c.size → p ≤ a.size → a.size ≤ p + n → B a p = a.size → B c p = c.size
  | 0, p, hc, h, k, hg => by
    have : p = c.size := hc
    exact B_end (by omega)
  | n + 1, p, hc, h, k, hg => by
    by_cases e : c.size ≤ p
    · exact B_end e
    · have hp : p < a.size := by omega
      obtain ⟨c0, c1⟩ := B_piece hp hg
      have hle := Ch_le a p
      unfold Ct at hc
      rw [if_pos hp] at hc
      by_cases hm : most < (p : Int) + max 1 (Ch a p)
      · rw [if_pos hm] at hc; omega
      · rw [if_neg hm] at hc
        have hge := Ct_pos a most n (p + max 1 (Ch a p))
        have hch : Ch c p = Ch a p := Ch_same (fun k h _ => ⟨by omega, hb _ (by omega)⟩) c0
        rw [B_next (by omega) (by omega) (by rw [hb p (by omega)]; exact c1), hch]
        rw [B_next hp c0 c1] at hg
        have e1 : p + max 1 (Ch a p) = p + Ch a p := by omega
        rw [e1] at hc
        exact Ct_good hsz hb n _ hc (by omega) (by omega) hg

theorem bt_take {a : ByteArray} {e k : Nat} (he : e ≤ a.size) (h : k < e) : bt (a.extract 0 e) k = bt a k := by
  have hs : (a.extract 0 e).size = e := by rw [ByteArray.size_extract]; omega
  rw [← get_bt (a.extract 0 e) k (by omega), ← get_bt a k (by omega), ByteArray.getElem_extract]
  simp
theorem size_take {a : ByteArray} {e : Nat} (he : e ≤ a.size) : (a.extract 0 e).size = e := by rw [ByteArray.size_extract]; omega
/-- What is cut of a good text is good. -/
theorem good_cut {a : ByteArray} (most : Int) (h : good a = true) : good (a.extract 0 (cut a most)) = true := by
  have he := cut_le a most
  have hs := size_take he
  rw [good_iff]
  exact Ct_good (a := a) (most := most) (by omega) (fun k hk => bt_take he (by omega)) a.size 0 (by rw [hs]; rfl) (by omega) (by omega) ((good_iff a).1 h)
theorem cut_self (a : ByteArray) : a.extract 0 (cut a a.size) = a := by
  rw [cut_all a _ (Int.le_refl _)]
  exact ByteArray.extract_zero_size
end Go.Proofs.Ytfdbpbhihccgbaa.Utf
end


section
namespace Go.Proofs.Ytfdbpbhihccgbaa.Mad
set_option linter.unusedVariables false
open Go.PlainAid Go.Proofs.Ytfdbpbhihccgbaa.Utf

/-- A character's bytes, by its number. -/
def chb (n : Nat) : List UInt8 :=
  if n < 128 then [UInt8.ofNat n] else if n < 2048 then [UInt8.ofNat (192 + n / 64), UInt8.ofNat (128 + n % 64)]
  else if n < 65536 then [UInt8.ofNat (224 + n / 4096), UInt8.ofNat (128 + n / 64 % 64), UInt8.ofNat (128 + n % 64)]
  else [UInt8.ofNat (240 + n / 262144), UInt8.ofNat (128 + n / 4096 % 64), UInt8.ofNat (128 + n / 64 % 64), UInt8.ofNat (128 + n % 64)]
structure Num (n : Nat) : Prop where
  lo : 1 ≤ n
  hi : n ≤ 1114111
  no : n < 55296 ∨ 57343 < n
theorem chb_length (n : Nat) : 1 ≤ (chb n).length ∧ (chb n).length ≤ 4 := by
  unfold chb
  repeat' split
  all_goals simp
/-- These bytes stand at this place. -/
def Stands (t : ByteArray) (p : Nat) (l : List UInt8) : Prop := ∀ k (h : k < l.length), p + k < t.size ∧ bt t (p + k) = (l[k].toNat : Int)

theorem char_there {t : ByteArray} {p n : Nat} (hn : Num n) (h : Stands t p (chb n)) : Ch t p = (chb n).length ∧ bt t p ≠ 0 ∧ (bt t p < 128 ∨ 194 ≤ bt t p) := by
  obtain ⟨a1, a2, a3⟩ := hn
  unfold chb at h ⊢
  by_cases c0 : n < 128
  · rw [if_pos c0] at h ⊢
    have b0 := h 0 (by simp)
    simp at b0
    rw [Ch_one (by omega) (by omega)]
    exact ⟨rfl, by omega, by omega⟩
  rw [if_neg c0] at h ⊢
  by_cases c1 : n < 2048
  · rw [if_pos c1] at h ⊢
    have b0 := h 0 (by simp); have b1 := h 1 (by simp)
    simp at b0 b1
    rw [Ch_two (by omega) (by omega) (by omega) (by omega) (by omega)]
    exact ⟨rfl, by omega, by omega⟩
  rw [if_neg c1] at h ⊢
  by_cases c2 : n < 65536
  · rw [if_pos c2] at h ⊢
    have b0 := h 0 (by simp); have b1 := h 1 (by simp); have b2 := h 2 (by simp)
    simp at b0 b1 b2
    rw [Ch_three (by omega) (by omega) (by omega) (by omega) (by omega) (by omega) (by omega) (by omega) (by omega)]
    exact ⟨rfl, by omega, by omega⟩
  · rw [if_neg c2] at h ⊢
    have b0 := h 0 (by simp); have b1 := h 1 (by simp); have b2 := h 2 (by simp); have b3 := h 3 (by simp)
    simp at b0 b1 b2 b3
    rw [Ch_four (by omega) (by omega) (by omega) (by omega) (by omega) (by omega) (by omega) (by omega) (by omega) (by omega) (by omega)]
    exact ⟨rfl, by omega, by omega⟩

/-- A text as a list of bytes. -/
def tx (l : List UInt8) : ByteArray := ⟨l.toArray⟩
theorem tx_size (l : List UInt8) : (tx l).size = l.length := by simp [tx, ByteArray.size]
theorem tx_bt (l : List UInt8) (k : Nat) (h : k < l.length) : bt (tx l) k = (l[k].toNat : Int) := by
  rw [← get_bt (tx l) k (by rw [tx_size]; exact h)]
  rfl
theorem tx_append (a b : List UInt8) : tx a ++ tx b = tx (a ++ b) := by
  apply ByteArray.ext
  simp [tx]
theorem stands_mid (a b c : List UInt8) : Stands (tx (a ++ b ++ c)) a.length b := fun k h => by
  have h2 : a.length + k < (a ++ b ++ c).length := by simp; omega
  refine ⟨by rw [tx_size]; exact h2, ?_⟩
  rw [tx_bt _ _ h2]
  congr 2
  rw [List.getElem_append_left (by simp; omega), List.getElem_append_right (by omega)]
  simp

/-- The characters of these numbers, one behind the other. -/
def flat (l : List Nat) : List UInt8 := l.flatMap chb
theorem flat_append (a b : List Nat) : flat (a ++ b) = flat a ++ flat b := by simp [flat]
theorem flat_cons (a : Nat) (b : List Nat) : flat (a :: b) = chb a ++ flat b := by simp [flat]

theorem at_char {a b : List Nat} {n : Nat} (hn : Num n) : Ch (tx (flat (a ++ n :: b))) (flat a).length = (chb n).length ∧ bt (tx (flat (a ++ n :: b))) (flat a).length ≠ 0 := by
  have e : flat (a ++ n :: b) = flat a ++ chb n ++ flat b := by rw [flat_append, flat_cons, List.append_assoc]
  rw [e]
  have := char_there hn (stands_mid (flat a) (chb n) (flat b))
  exact ⟨this.1, this.2.1⟩

theorem B_flat : ∀ (b a : List Nat), (∀ n ∈ b, Num n) → B (tx (flat (a ++ b))) (flat a).length = (flat (a ++ b)).length
  | [], a, _ => by rw [List.append_nil]; rw [B_end (by rw [tx_size]; exact Nat.le_refl _), tx_size]
  | n :: b, a, h => by
    obtain ⟨c1, c2⟩ := at_char (a := a) (b := b) (h n (by simp))
    have hl := chb_length n
    have hs : (flat a).length < (tx (flat (a ++ n :: b))).size := by rw [tx_size, flat_append, flat_cons]; simp; omega
    rw [B_next hs (by omega) c2, c1]
    have ih := B_flat b (a ++ [n]) (fun m hm => h m (by simp [hm]))
    have e1 : a ++ [n] ++ b = a ++ n :: b := by simp
    have e2 : (flat (a ++ [n])).length = (flat a).length + (chb n).length := by rw [flat_append]; simp [flat]
    rw [e1, e2] at ih
    exact ih
theorem good_flat (l : List Nat) (h : ∀ n ∈ l, Num n) : good (tx (flat l)) = true := by
  rw [good_iff, tx_size]
  exact B_flat l [] h

/-- Where the characters end, from a place on. -/
def bds : Nat → List Nat → List Nat
  | _, [] => []
  | p, n :: l => (p + (chb n).length) :: bds (p + (chb n).length) l
/-- The last one of these that is no greater. -/
def lastLe (most : Int) (e : Nat) (l : List Nat) : Nat := l.foldl (fun (e x : Nat) => if (x : Int) ≤ most then x else e) e
theorem bds_gt : ∀ (l : List Nat) (p x : Nat), x ∈ bds p l → p < x
  | n :: l, p, x, h => by
    have := chb_length n
    simp only [bds, List.mem_cons] at h
    rcases h with rfl | h
    · omega
    · have := bds_gt l _ x h; omega
theorem lastLe_none (most : Int) : ∀ (l : List Nat) (e : Nat), (∀ x ∈ l, most < (x : Int)) → lastLe most e l = e
  | [], e, _ => rfl
  | x :: l, e, h => by
    show lastLe most (if (x : Int) ≤ most then x else e) l = e
    rw [if_neg (by have := h x (by simp); omega)]
    exact lastLe_none most l e (fun y hy => h y (by simp [hy]))

theorem Ct_flat (most : Int) : ∀ (b a : List Nat) (f : Nat), (∀ n ∈ b, Num n) → ((flat a).length : Int) ≤ most → (flat (a ++ b)).length ≤ (flat a).length + f →
    Ct (tx (flat (a ++ b))) most f (flat a).length = lastLe most (flat a).length (bds (flat a).length b)
  | [], a, f, _, _, _ => by rw [List.append_nil]; show Ct (tx (flat a)) most f (flat a).length = (flat a).length; exact Ct_end (by rw [tx_size]; exact Nat.le_refl _)
  | n :: b, a, 0, h, hm, hf => by
    have hl := chb_length n
    rw [flat_append, flat_cons] at hf
    simp at hf
    omega
  | n :: b, a, f + 1, h, hm, hf => by
    obtain ⟨c1, c2⟩ := at_char (a := a) (b := b) (h n (by simp))
    have hl := chb_length n
    have hs : (flat a).length < (tx (flat (a ++ n :: b))).size := by rw [tx_size, flat_append, flat_cons]; simp; omega
    have e1 : a ++ [n] ++ b = a ++ n :: b := by simp
    have e2 : (flat (a ++ [n])).length = (flat a).length + (chb n).length := by rw [flat_append]; simp [flat]
    have emax : max 1 (Ch (tx (flat (a ++ n :: b))) (flat a).length) = (chb n).length := by omega
    show _ = lastLe most (if (((flat a).length + (chb n).length : Nat) : Int) ≤ most then (flat a).length + (chb n).length else (flat a).length) (bds ((flat a).length + (chb n).length) b)
    by_cases hk : (((flat a).length + (chb n).length : Nat) : Int) ≤ most
    · rw [Ct_next hs (by rw [emax]; omega), emax, if_pos hk]
      have ih := Ct_flat most b (a ++ [n]) f (fun m hm => h m (by simp [hm])) (by rw [e2]; exact hk) (by rw [e1, e2]; omega)
      rw [e1, e2] at ih
      exact ih
    · rw [Ct_stop (by rw [emax]; omega), if_neg hk, lastLe_none _ _ _ (fun x hx => by have := bds_gt b _ x hx; omega)]

/-- CUT WHERE THEY END. -/
theorem cut_flat (l : List Nat) (h : ∀ n ∈ l, Num n) (most : Int) : cut (tx (flat l)) most = lastLe most 0 (0 :: bds 0 l) := by
  show _ = lastLe most (if ((0 : Nat) : Int) ≤ most then 0 else 0) (bds 0 l)
  have e0 : (if ((0 : Nat) : Int) ≤ most then 0 else 0) = 0 := by split <;> rfl
  rw [e0]
  by_cases hm : 0 ≤ most
  · exact Ct_flat most l [] _ h hm (by rw [tx_size]; show (flat ([] ++ l)).length ≤ (flat []).length + (flat l).length; simp)
  · rw [lastLe_none _ _ _ (fun x hx => by omega)]
    exact Ct_stop (by omega)

/-- What is no character. -/
def spl (k : Nat) : List UInt8 :=
  match k with
  | 0 => [0] | 1 => [128] | 2 => [192, 128] | 3 => [193, 191] | 4 => [224, 159, 191] | 5 => [237, 160, 128] | 6 => [237, 191, 191]
  | 7 => [240, 143, 191, 191] | 8 => [244, 144, 128, 128] | 9 => [245, 128, 128, 128] | 10 => [226, 130] | _ => [240, 159, 152]

theorem sp_0 {t : ByteArray} (h : Stands t 0 [0]) (ha : t.size = 1 ∨ bt t 1 < 128 ∨ 194 ≤ bt t 1) : Ch t 0 = 0 ∨ bt t 0 = 0 := by
  have b0 := h 0 (by simp)
  simp at b0
  right; omega
theorem sp_1 {t : ByteArray} (h : Stands t 0 [128]) (ha : t.size = 1 ∨ bt t 1 < 128 ∨ 194 ≤ bt t 1) : Ch t 0 = 0 ∨ bt t 0 = 0 := by
  have b0 := h 0 (by simp)
  simp at b0
  have z := Ch_zero (s := t) (a := 0)
  simp only [Nat.zero_add] at z
  exact Or.inl (z (by omega) (by omega) (by omega) (by omega))
theorem sp_2 {t : ByteArray} (h : Stands t 0 [192, 128]) (ha : t.size = 2 ∨ bt t 2 < 128 ∨ 194 ≤ bt t 2) : Ch t 0 = 0 ∨ bt t 0 = 0 := by
  have b0 := h 0 (by simp)
  have b1 := h 1 (by simp)
  simp at b0 b1
  have z := Ch_zero (s := t) (a := 0)
  simp only [Nat.zero_add] at z
  exact Or.inl (z (by omega) (by omega) (by omega) (by omega))
theorem sp_3 {t : ByteArray} (h : Stands t 0 [193, 191]) (ha : t.size = 2 ∨ bt t 2 < 128 ∨ 194 ≤ bt t 2) : Ch t 0 = 0 ∨ bt t 0 = 0 := by
  have b0 := h 0 (by simp)
  have b1 := h 1 (by simp)
  simp at b0 b1
  have z := Ch_zero (s := t) (a := 0)
  simp only [Nat.zero_add] at z
  exact Or.inl (z (by omega) (by omega) (by omega) (by omega))
theorem sp_4 {t : ByteArray} (h : Stands t 0 [224, 159, 191]) (ha : t.size = 3 ∨ bt t 3 < 128 ∨ 194 ≤ bt t 3) : Ch t 0 = 0 ∨ bt t 0 = 0 := by
  have b0 := h 0 (by simp)
  have b1 := h 1 (by simp)
  have b2 := h 2 (by simp)
  simp at b0 b1 b2
  have z := Ch_zero (s := t) (a := 0)
  simp only [Nat.zero_add] at z
  exact Or.inl (z (by omega) (by omega) (by omega) (by omega))
theorem sp_5 {t : ByteArray} (h : Stands t 0 [237, 160, 128]) (ha : t.size = 3 ∨ bt t 3 < 128 ∨ 194 ≤ bt t 3) : Ch t 0 = 0 ∨ bt t 0 = 0 := by
  have b0 := h 0 (by simp)
  have b1 := h 1 (by simp)
  have b2 := h 2 (by simp)
  simp at b0 b1 b2
  have z := Ch_zero (s := t) (a := 0)
  simp only [Nat.zero_add] at z
  exact Or.inl (z (by omega) (by omega) (by omega) (by omega))
theorem sp_6 {t : ByteArray} (h : Stands t 0 [237, 191, 191]) (ha : t.size = 3 ∨ bt t 3 < 128 ∨ 194 ≤ bt t 3) : Ch t 0 = 0 ∨ bt t 0 = 0 := by
  have b0 := h 0 (by simp)
  have b1 := h 1 (by simp)
  have b2 := h 2 (by simp)
  simp at b0 b1 b2
  have z := Ch_zero (s := t) (a := 0)
  simp only [Nat.zero_add] at z
  exact Or.inl (z (by omega) (by omega) (by omega) (by omega))
theorem sp_7 {t : ByteArray} (h : Stands t 0 [240, 143, 191, 191]) (ha : t.size = 4 ∨ bt t 4 < 128 ∨ 194 ≤ bt t 4) : Ch t 0 = 0 ∨ bt t 0 = 0 := by
  have b0 := h 0 (by simp)
  have b1 := h 1 (by simp)
  have b2 := h 2 (by simp)
  have b3 := h 3 (by simp)
  simp at b0 b1 b2 b3
  have z := Ch_zero (s := t) (a := 0)
  simp only [Nat.zero_add] at z
  exact Or.inl (z (by omega) (by omega) (by omega) (by omega))
theorem sp_8 {t : ByteArray} (h : Stands t 0 [244, 144, 128, 128]) (ha : t.size = 4 ∨ bt t 4 < 128 ∨ 194 ≤ bt t 4) : Ch t 0 = 0 ∨ bt t 0 = 0 := by
  have b0 := h 0 (by simp)
  have b1 := h 1 (by simp)
  have b2 := h 2 (by simp)
  have b3 := h 3 (by simp)
  simp at b0 b1 b2 b3
  have z := Ch_zero (s := t) (a := 0)
  simp only [Nat.zero_add] at z
  exact Or.inl (z (by omega) (by omega) (by omega) (by omega))
theorem sp_9 {t : ByteArray} (h : Stands t 0 [245, 128, 128, 128]) (ha : t.size = 4 ∨ bt t 4 < 128 ∨ 194 ≤ bt t 4) : Ch t 0 = 0 ∨ bt t 0 = 0 := by
  have b0 := h 0 (by simp)
  have b1 := h 1 (by simp)
  have b2 := h 2 (by simp)
  have b3 := h 3 (by simp)
  simp at b0 b1 b2 b3
  have z := Ch_zero (s := t) (a := 0)
  simp only [Nat.zero_add] at z
  exact Or.inl (z (by omega) (by omega) (by omega) (by omega))
theorem sp_10 {t : ByteArray} (h : Stands t 0 [226, 130]) (ha : t.size = 2 ∨ bt t 2 < 128 ∨ 194 ≤ bt t 2) : Ch t 0 = 0 ∨ bt t 0 = 0 := by
  have b0 := h 0 (by simp)
  have b1 := h 1 (by simp)
  simp at b0 b1
  have z := Ch_zero (s := t) (a := 0)
  simp only [Nat.zero_add] at z
  exact Or.inl (z (by omega) (by omega) (by omega) (by omega))
theorem sp_11 {t : ByteArray} (h : Stands t 0 [240, 159, 152]) (ha : t.size = 3 ∨ bt t 3 < 128 ∨ 194 ≤ bt t 3) : Ch t 0 = 0 ∨ bt t 0 = 0 := by
  have b0 := h 0 (by simp)
  have b1 := h 1 (by simp)
  have b2 := h 2 (by simp)
  simp at b0 b1 b2
  have z := Ch_zero (s := t) (a := 0)
  simp only [Nat.zero_add] at z
  exact Or.inl (z (by omega) (by omega) (by omega) (by omega))
theorem spoilt (k : Nat) (l : List Nat) (h : ∀ n ∈ l, Num n) : good (tx (spl k ++ flat l)) = false := by
  have hz : (tx (spl k ++ flat l)).size = (spl k).length + (flat l).length := by rw [tx_size]; simp
  have hst : Stands (tx (spl k ++ flat l)) 0 (spl k) := by
    have := stands_mid [] (spl k) (flat l)
    simpa using this
  have hnext : (flat l) = [] ∨ (∃ x y, flat l = x :: y ∧ ((x.toNat : Int) < 128 ∨ 194 ≤ (x.toNat : Int))) := by
    cases l with
    | nil => left; rfl
    | cons n l =>
      right
      have hn := h n (by simp)
      have hc := char_there hn (stands_mid [] (chb n) (flat l))
      have hl := chb_length n
      obtain ⟨x, y, e⟩ : ∃ x y, chb n = x :: y := by
        cases hq : chb n with
        | nil => rw [hq] at hl; simp at hl
        | cons x y => exact ⟨x, y, rfl⟩
      refine ⟨x, y ++ flat l, by rw [flat_cons, e]; rfl, ?_⟩
      have e2 := tx_bt ([] ++ chb n ++ flat l) 0 (by rw [e]; simp)
      have e3 : ([] ++ chb n ++ flat l)[0]'(by rw [e]; simp) = x := by simp [e]
      rw [e3] at e2
      have := hc.2.2
      simp only [List.length_nil] at this
      omega
  have hafter : (tx (spl k ++ flat l)).size = (spl k).length ∨ (bt (tx (spl k ++ flat l)) (spl k).length < 128 ∨ 194 ≤ bt (tx (spl k ++ flat l)) (spl k).length) := by
    rcases hnext with e | ⟨x, y, e, hx⟩
    · left; rw [hz, e]; rfl
    · right
      have e2 := tx_bt (spl k ++ flat l) (spl k).length (by rw [e]; simp)
      rw [e2]
      have e3 : (spl k ++ flat l)[(spl k).length]'(by rw [e]; simp) = x := by
        rw [List.getElem_append_right (Nat.le_refl _)]; simp [e]
      rw [e3]; exact hx
  have hpos : 0 < (tx (spl k ++ flat l)).size := by
    rw [hz]; unfold spl; split <;> simp <;> omega
  have key : Ch (tx (spl k ++ flat l)) 0 = 0 ∨ bt (tx (spl k ++ flat l)) 0 = 0 := by
    generalize tx (spl k ++ flat l) = t at *
    match k, hst, hafter with
    | 0, hst, hafter => exact sp_0 hst hafter
    | 1, hst, hafter => exact sp_1 hst hafter
    | 2, hst, hafter => exact sp_2 hst hafter
    | 3, hst, hafter => exact sp_3 hst hafter
    | 4, hst, hafter => exact sp_4 hst hafter
    | 5, hst, hafter => exact sp_5 hst hafter
    | 6, hst, hafter => exact sp_6 hst hafter
    | 7, hst, hafter => exact sp_7 hst hafter
    | 8, hst, hafter => exact sp_8 hst hafter
    | 9, hst, hafter => exact sp_9 hst hafter
    | 10, hst, hafter => exact sp_10 hst hafter
    | (q + 11), hst, hafter => exact sp_11 hst hafter
  rw [← Bool.not_eq_true, good_iff, B_here hpos key]
  omega
end Go.Proofs.Ytfdbpbhihccgbaa.Mad
end

namespace Go.Proofs.Ytfdbpbhihccgbaa.Mad
set_option linter.unusedVariables false
open Go.RowKit Go.PlainAid Go.Proofs.Ytfdbpbhihccgbaa.Utf Go.Proofs.Ytfdbpbhihccgbaa.Txt

/-- Which of n things a raw number speaks of. -/
def pk (c : Int) (n : Nat) : Nat := ((if c < 0 then -(c + 1) else c) % n).toNat
theorem pk_lt (c : Int) (n : Nat) (h : 0 < n) : pk c n < n := by
  unfold pk
  have := Int.emod_lt_of_pos (if c < 0 then -(c + 1) else c) (show (0 : Int) < n by omega)
  have := Int.emod_nonneg (if c < 0 then -(c + 1) else c) (show (n : Int) ≠ 0 by omega)
  omega
theorem pick_any (c x : Int) (n : Nat) (w : World) (hx : x = n) (hn : 1 ≤ n) (hn2 : n ≤ 1152921504606846976) (h1 : -9223372036854775808 ≤ c) (h2 : c ≤ 9223372036854775807) :
    Calls Try.prog 9 #[.int .i64 c, .int .i64 x] w fun e w' => e = .returned (.int .i64 (pk c n)) ∧ w = w' := by
  subst hx
  have hp : (0 : Int) < (n : Int) := by omega
  have h0 : ((n : Int) == 0) = false := by simp; omega
  by_cases hc : c < 0
  · have e : (pk c n : Int) = (-(c + 1)) % (n : Int) := by
      unfold pk; rw [if_pos hc]
      have := Int.emod_nonneg (-(c + 1)) (show (n : Int) ≠ 0 by omega)
      omega
    rw [e]
    clear e
    go_enter Try.func9, Try.ntmps9
    go_wp2_with fail
    go_ret
    refine ⟨ret_int ?_, rfl⟩
    rw [← Int.neg_tmod, Int.tmod_eq_emod_of_nonneg (by omega)]
  · have e : (pk c n : Int) = c % (n : Int) := by
      unfold pk; rw [if_neg hc]
      have := Int.emod_nonneg c (show (n : Int) ≠ 0 by omega)
      omega
    rw [e]
    clear e
    go_enter Try.func9, Try.ntmps9
    go_wp2_with fail
    go_ret
    exact ⟨rfl, rfl⟩

end Go.Proofs.Ytfdbpbhihccgbaa.Mad
