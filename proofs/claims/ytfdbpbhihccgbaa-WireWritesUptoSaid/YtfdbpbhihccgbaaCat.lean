/- Plain facts on texts one behind the other, on what is cut, on a byte ff: all of the reference's own words (Ch, Bd, Ct). No program's run. -/
import Derived.Test.YtfdbpbhihccgbaaUtf
namespace Go.Proofs.Ytfdbpbhihccgbaa.Utf
open Go.PlainAid

/-- The place of the first bad piece from p on. -/
def B (s : ByteArray) (p : Nat) : Nat := Bd s s.size p
theorem Bd_fuel (s : ByteArray) : ∀ (n m p : Nat), s.size ≤ p + n → s.size ≤ p + m → Bd s n p = Bd s m p
  | 0, m, p, h, _ => by rw [Bd_end s m p (by omega)]; rfl
  | n + 1, 0, p, _, h => by rw [Bd_end s (n + 1) p (by omega)]; rfl
  | n + 1, m + 1, p, h, k => by
    unfold Bd
    by_cases hp : p < s.size
    · rw [if_pos hp, if_pos hp]
      by_cases h0 : Ch s p = 0 ∨ bt s p = 0
      · rw [if_pos h0, if_pos h0]
      · rw [if_neg h0, if_neg h0]
        exact Bd_fuel s n m _ (by omega) (by omega)
    · rw [if_neg hp, if_neg hp]
theorem B_end {s : ByteArray} {p : Nat} (h : s.size ≤ p) : B s p = s.size := Bd_end s _ p h
theorem B_here {s : ByteArray} {p : Nat} (h : p < s.size) (h0 : Ch s p = 0 ∨ bt s p = 0) : B s p = p := Bd_here h (by omega) h0
theorem B_next {s : ByteArray} {p : Nat} (h : p < s.size) (h0 : Ch s p ≠ 0) (h1 : bt s p ≠ 0) : B s p = B s (p + Ch s p) := by
  unfold B
  rw [Bd_fuel s s.size (s.size + 1) p (by omega) (by omega), Bd_next h h0 h1]
theorem B_bad (s : ByteArray) : bad s = B s 0 := rfl
theorem B_le (s : ByteArray) (p : Nat) : B s p ≤ s.size := Bd_le s _ _
theorem good_iff (s : ByteArray) : good s = true ↔ B s 0 = s.size := by unfold good; rw [decide_eq_true_iff]; rfl
/-- Good from p on: the piece at p is none of the bad ones. -/
theorem B_piece {s : ByteArray} {p : Nat} (h : p < s.size) (hg : B s p = s.size) : Ch s p ≠ 0 ∧ bt s p ≠ 0 := by
  by_cases h0 : Ch s p = 0 ∨ bt s p = 0
  · rw [B_here h h0] at hg; omega
  · omega

/-- A character stands as it stood where its bytes stand as they stood. -/
theorem Ch_same {s t : ByteArray} {p q : Nat} (hin : ∀ k, k < Ch s p → p + k < s.size → q + k < t.size ∧ bt t (q + k) = bt s (p + k)) (hc : Ch s p ≠ 0) : Ch t q = Ch s p := by
  have e0 := hin 0; have e1 := hin 1; have e2 := hin 2; have e3 := hin 3
  clear hin
  simp only [Nat.add_zero] at e0
  by_cases c0 : p < s.size ∧ bt s p ≤ 127
  · have h := Ch_one c0.1 c0.2
    rw [h] at e0 ⊢
    have e0 := e0 (by omega) (by omega)
    rw [Ch_one (by omega) (by omega)]
  by_cases c1 : (194 ≤ bt s p ∧ bt s p ≤ 223 ∧ p + 1 < s.size ∧ 128 ≤ bt s (p + 1) ∧ bt s (p + 1) ≤ 191)
  · have h := Ch_two (s := s) (a := p) (by omega) (by omega) (by omega) (by omega) (by omega)
    rw [h] at e0 e1 ⊢
    have e0 := e0 (by omega) (by omega); have e1 := e1 (by omega) (by omega)
    rw [Ch_two (by omega) (by omega) (by omega) (by omega) (by omega)]
  by_cases c2 : (224 ≤ bt s p ∧ bt s p ≤ 239 ∧ p + 1 < s.size ∧ 128 ≤ bt s (p + 1) ∧ bt s (p + 1) ≤ 191 ∧ (bt s p = 224 → 160 ≤ bt s (p + 1)) ∧ (bt s p = 237 → bt s (p + 1) ≤ 159) ∧ p + 2 < s.size ∧ 128 ≤ bt s (p + 2) ∧ bt s (p + 2) ≤ 191)
  · have h := Ch_three (s := s) (a := p) (by omega) (by omega) (by omega) (by omega) (by omega) (by omega) (by omega) (by omega) (by omega)
    rw [h] at e0 e1 e2 ⊢
    have e0 := e0 (by omega) (by omega); have e1 := e1 (by omega) (by omega); have e2 := e2 (by omega) (by omega)
    rw [Ch_three (by omega) (by omega) (by omega) (by omega) (by omega) (by omega) (by omega) (by omega) (by omega)]
  by_cases c3 : (240 ≤ bt s p ∧ bt s p ≤ 244 ∧ p + 1 < s.size ∧ 128 ≤ bt s (p + 1) ∧ bt s (p + 1) ≤ 191 ∧ (bt s p = 240 → 144 ≤ bt s (p + 1)) ∧ (bt s p = 244 → bt s (p + 1) ≤ 143) ∧ p + 2 < s.size ∧ 128 ≤ bt s (p + 2) ∧ bt s (p + 2) ≤ 191 ∧ p + 3 < s.size ∧ 128 ≤ bt s (p + 3) ∧ bt s (p + 3) ≤ 191)
  · have h := Ch_four (s := s) (a := p) (by omega) (by omega) (by omega) (by omega) (by omega) (by omega) (by omega) (by omega) (by omega) (by omega) (by omega)
    rw [h] at e0 e1 e2 e3 ⊢
    have e0 := e0 (by omega) (by omega); have e1 := e1 (by omega) (by omega); have e2 := e2 (by omega) (by omega); have e3 := e3 (by omega) (by omega)
    rw [Ch_four (by omega) (by omega) (by omega) (by omega) (by omega) (by omega) (by omega) (by omega) (by omega) (by omega) (by omega)]
  · exact absurd (Ch_zero (by omega) c1 c2 c3) hc

/-- What bytes a character has. -/
theorem Ch_bytes {s : ByteArray} {p : Nat} (h : Ch s p ≠ 0) : bt s p ≤ 244 ∧ (∀ k, 0 < k → k < Ch s p → 128 ≤ bt s (p + k) ∧ bt s (p + k) ≤ 191) ∧ p < s.size ∧ (bt s p ≤ 127 ∨ 194 ≤ bt s p) ∧ (bt s p ≤ 127 → Ch s p = 1) := by
  by_cases c0 : p < s.size ∧ bt s p ≤ 127
  · rw [Ch_one c0.1 c0.2]; exact ⟨by omega, fun k a b => by omega, by omega, by omega, by omega⟩
  by_cases c1 : (194 ≤ bt s p ∧ bt s p ≤ 223 ∧ p + 1 < s.size ∧ 128 ≤ bt s (p + 1) ∧ bt s (p + 1) ≤ 191)
  · rw [Ch_two (by omega) (by omega) (by omega) (by omega) (by omega)]
    refine ⟨by omega, fun k a b => ?_, by omega, by omega, by omega⟩
    obtain rfl : k = 1 := by omega
    omega
  by_cases c2 : (224 ≤ bt s p ∧ bt s p ≤ 239 ∧ p + 1 < s.size ∧ 128 ≤ bt s (p + 1) ∧ bt s (p + 1) ≤ 191 ∧ (bt s p = 224 → 160 ≤ bt s (p + 1)) ∧ (bt s p = 237 → bt s (p + 1) ≤ 159) ∧ p + 2 < s.size ∧ 128 ≤ bt s (p + 2) ∧ bt s (p + 2) ≤ 191)
  · rw [Ch_three (by omega) (by omega) (by omega) (by omega) (by omega) (by omega) (by omega) (by omega) (by omega)]
    refine ⟨by omega, fun k a b => ?_, by omega, by omega, by omega⟩
    obtain rfl | rfl : k = 1 ∨ k = 2 := by omega
    · omega
    · omega
  by_cases c3 : (240 ≤ bt s p ∧ bt s p ≤ 244 ∧ p + 1 < s.size ∧ 128 ≤ bt s (p + 1) ∧ bt s (p + 1) ≤ 191 ∧ (bt s p = 240 → 144 ≤ bt s (p + 1)) ∧ (bt s p = 244 → bt s (p + 1) ≤ 143) ∧ p + 2 < s.size ∧ 128 ≤ bt s (p + 2) ∧ bt s (p + 2) ≤ 191 ∧ p + 3 < s.size ∧ 128 ≤ bt s (p + 3) ∧ bt s (p + 3) ≤ 191)
  · rw [Ch_four (by omega) (by omega) (by omega) (by omega) (by omega) (by omega) (by omega) (by omega) (by omega) (by omega) (by omega)]
    refine ⟨by omega, fun k a b => ?_, by omega, by omega, by omega⟩
    obtain rfl | rfl | rfl : k = 1 ∨ k = 2 ∨ k = 3 := by omega
    · omega
    · omega
    · omega
  · exact absurd (Ch_zero (by omega) c1 c2 c3) h

/-- The pieces never step over a byte ff. -/
theorem B_ff {s : ByteArray} {q : Nat} (hq : q < s.size) (hf : bt s q = 255) : ∀ (n p : Nat), p ≤ q → q ≤ p + n → B s p ≤ q
  | 0, p, h, k => by
    obtain rfl : p = q := by omega
    have h0 : Ch s p = 0 := by
      by_cases c : Ch s p = 0
      · exact c
      · have := (Ch_bytes c).1; omega
    rw [B_here hq (Or.inl h0)]; omega
  | n + 1, p, h, k => by
    by_cases h0 : Ch s p = 0 ∨ bt s p = 0
    · rw [B_here (by omega) h0]; exact h
    · obtain ⟨c1, c2, c3, c4⟩ := Ch_bytes (s := s) (p := p) (by omega)
      by_cases hpq : p + Ch s p ≤ q
      · rw [B_next (by omega) (by omega) (by omega)]
        exact B_ff hq hf n _ hpq (by omega)
      · by_cases e : p = q
        · subst e; omega
        · have := c2 (q - p) (by omega) (by omega)
          rw [show p + (q - p) = q from by omega] at this
          omega

/-- Good texts one behind the other: what stands behind is looked at as by itself. -/
theorem B_first {a t : ByteArray} (hsz : a.size ≤ t.size) (hb : ∀ k, k < a.size → bt t k = bt a k) :
    ∀ (n p : Nat), p ≤ a.size → a.size ≤ p + n → B a p = a.size → B t p = B t a.size
  | 0, p, h, k, _ => by rw [show p = a.size from by omega]
  | n + 1, p, h, k, hg => by
    by_cases e : p = a.size
    · rw [e]
    · obtain ⟨c0, c1⟩ := B_piece (by omega) hg
      have hc : Ch t p = Ch a p := Ch_same (fun k _ h => ⟨by omega, hb _ h⟩) c0
      have hp : p < a.size := by omega
      have hle := Ch_le a p
      rw [B_next (s := t) (by omega) (by rw [hc]; exact c0) (by rw [hb p hp]; exact c1), hc]
      rw [B_next hp c0 c1] at hg
      exact B_first hsz hb n _ (by omega) (by omega) hg

theorem B_second {b t : ByteArray} {m : Nat} (hsz : t.size = m + b.size) (hb : ∀ k, k < b.size → bt t (m + k) = bt b k) :
    ∀ (n p : Nat), p ≤ b.size → b.size ≤ p + n → B t (m + p) = m + B b p
  | 0, p, h, k => by rw [B_end (by omega), B_end (by omega)]; omega
  | n + 1, p, h, k => by
    by_cases e : p < b.size
    · have hb' : ∀ k, p + k < b.size → bt t (m + p + k) = bt b (p + k) := fun k h => by rw [Nat.add_assoc]; exact hb _ h
      have hc : Ch t (m + p) = Ch b p := by
        by_cases c : Ch b p = 0
        · by_cases d : Ch t (m + p) = 0
          · rw [c, d]
          · have := Ch_same (s := t) (p := m + p) (t := b) (q := p) (fun k _ h => ⟨by omega, (hb' k (by omega)).symm⟩) d
            omega
        · exact Ch_same (fun k _ h => ⟨by omega, hb' k h⟩) c
      have hbt := hb p e
      by_cases h0 : Ch b p = 0 ∨ bt b p = 0
      · rw [B_here e h0, B_here (by omega) (by rw [hc, hbt]; exact h0)]
      · have hle := Ch_le b p
        rw [B_next e (by omega) (by omega), B_next (s := t) (by omega) (by omega) (by omega), hc, Nat.add_assoc]
        exact B_second hsz hb n _ (by omega) (by omega)
    · rw [B_end (by omega), B_end (by omega)]; omega

theorem bt_left {a b : ByteArray} {k : Nat} (h : k < a.size) : bt (a ++ b) k = bt a k := by
  rw [← get_bt (a ++ b) k (by rw [ByteArray.size_append]; omega), ← get_bt a k h, ByteArray.getElem_append_left h]
theorem bt_right {a b : ByteArray} {k : Nat} (h : k < b.size) : bt (a ++ b) (a.size + k) = bt b k := by
  rw [← get_bt (a ++ b) (a.size + k) (by rw [ByteArray.size_append]; omega), ← get_bt b k h, ByteArray.getElem_append_right (by omega)]
  simp

theorem good_append {a : ByteArray} (b : ByteArray) (h : good a = true) : good (a ++ b) = good b := by
  have h1 := (good_iff a).1 h
  have hs : (a ++ b).size = a.size + b.size := ByteArray.size_append
  have e1 := B_first (a := a) (t := a ++ b) (by omega) (fun k hk => bt_left hk) a.size 0 (by omega) (by omega) h1
  have e2 := B_second (b := b) (t := a ++ b) (m := a.size) hs (fun k hk => bt_right hk) b.size 0 (by omega) (by omega)
  rw [Nat.add_zero] at e2
  rw [Bool.eq_iff_iff, good_iff, good_iff, e1, e2, hs]
  omega
theorem good_ff (a b : ByteArray) : good (a ++ ⟨#[255]⟩ ++ b) = false := by
  have hs : (a ++ ⟨#[255]⟩ ++ b).size = a.size + 1 + b.size := by rw [ByteArray.size_append, ByteArray.size_append]; rfl
  have hf : bt (a ++ ⟨#[255]⟩ ++ b) a.size = 255 := by
    have hz : (a ++ (⟨#[255]⟩ : ByteArray)).size = a.size + 1 := by rw [ByteArray.size_append]; rfl
    rw [bt_left (by omega)]
    have := bt_right (a := a) (b := ⟨#[255]⟩) (k := 0) (by decide)
    rw [Nat.add_zero] at this
    rw [this]; rfl
  have := B_ff (s := a ++ ⟨#[255]⟩ ++ b) (q := a.size) (by omega) hf a.size 0 (by omega) (by omega)
  rw [← Bool.not_eq_true, good_iff]
  omega

theorem Ct_pos (s : ByteArray) (most : Int) : ∀ n p, p ≤ Ct s most n p
  | 0, p => Nat.le_refl _
  | n + 1, p => by
    unfold Ct
    repeat' split
    all_goals first | omega | (have := Ct_pos s most n (p + max 1 (Ch s p)); omega)
theorem Ct_most (s : ByteArray) (most : Int) : ∀ (n p : Nat), (p : Int) ≤ max 0 most → (Ct s most n p : Int) ≤ max 0 most
  | 0, p, h => h
  | n + 1, p, h => by
    unfold Ct
    split
    · split
      · exact h
      · exact Ct_most s most n _ (by omega)
    · exact h
theorem cut_most (s : ByteArray) (most : Int) : (cut s most : Int) ≤ max 0 most := Ct_most s most s.size 0 (by omega)
theorem Ct_near (s : ByteArray) (most : Int) (hm : most < (s.size : Int)) : ∀ (n p : Nat), p ≤ s.size → s.size ≤ p + n → most < (Ct s most n p : Int) + 4
  | 0, p, k, h => by show most < (p : Int) + 4; omega
  | n + 1, p, k, h => by
    have := Ch_le s p
    have := Ch_max s p
    unfold Ct
    split
    · split
      · omega
      · exact Ct_near s most hm n _ (by omega) (by omega)
    · omega
theorem cut_near (s : ByteArray) (most : Int) (hm : most < (s.size : Int)) : most < (cut s most : Int) + 4 := Ct_near s most hm _ _ (by omega) (by omega)
theorem Ct_good {a : ByteArray} {most : Int} {c : ByteArray} (hsz : c.size ≤ a.size) (hb : ∀ k, k < c.size → bt c k = bt a k) :
    ∀ n p, Ct a most n p = c.size → p ≤ a.size → a.size ≤ p + n → B a p = a.size → B c p = c.size
  | 0, p, hc, h, k, hg => by
    have : p = c.size := hc
    exact B_end (by omega)
  | n + 1, p, hc, h, k, hg => by
    by_cases e : c.size ≤ p
    · exact B_end e
    · have hp : p < a.size := by omega
      obtain ⟨c0, c1⟩ := B_piece hp hg
      have hle := Ch_le a p
      unfold Ct at hc
      rw [if_pos hp] at hc
      by_cases hm : most < (p : Int) + max 1 (Ch a p)
      · rw [if_pos hm] at hc; omega
      · rw [if_neg hm] at hc
        have hge := Ct_pos a most n (p + max 1 (Ch a p))
        have hch : Ch c p = Ch a p := Ch_same (fun k h _ => ⟨by omega, hb _ (by omega)⟩) c0
        rw [B_next (by omega) (by omega) (by rw [hb p (by omega)]; exact c1), hch]
        rw [B_next hp c0 c1] at hg
        have e1 : p + max 1 (Ch a p) = p + Ch a p := by omega
        rw [e1] at hc
        exact Ct_good hsz hb n _ hc (by omega) (by omega) hg

theorem bt_take {a : ByteArray} {e k : Nat} (he : e ≤ a.size) (h : k < e) : bt (a.extract 0 e) k = bt a k := by
  have hs : (a.extract 0 e).size = e := by rw [ByteArray.size_extract]; omega
  rw [← get_bt (a.extract 0 e) k (by omega), ← get_bt a k (by omega), ByteArray.getElem_extract]
  simp
theorem size_take {a : ByteArray} {e : Nat} (he : e ≤ a.size) : (a.extract 0 e).size = e := by rw [ByteArray.size_extract]; omega
/-- What is cut of a good text is good. -/
theorem good_cut {a : ByteArray} (most : Int) (h : good a = true) : good (a.extract 0 (cut a most)) = true := by
  have he := cut_le a most
  have hs := size_take he
  rw [good_iff]
  exact Ct_good (a := a) (most := most) (by omega) (fun k hk => bt_take he (by omega)) a.size 0 (by rw [hs]; rfl) (by omega) (by omega) ((good_iff a).1 h)
theorem cut_self (a : ByteArray) : a.extract 0 (cut a a.size) = a := by
  rw [cut_all a _ (Int.le_refl _)]
  exact ByteArray.extract_zero_size
end Go.Proofs.Ytfdbpbhihccgbaa.Utf
