/- Plain facts on texts: the characters of the reference (Ch), the place of the first bad piece (Bd), and how the model's own decoder of runes goes with them. No program's run. -/
import Derived.Lib.RuneCount
import Derived.PlainAid
namespace Go.Proofs.YteeheapenfklcaaGreatDoor.Utf
open Go.PlainAid

/-- Is there a byte at this place, from lo to hi? -/
def inn (s : ByteArray) (a : Nat) (lo hi : Int) : Bool := decide (a < s.size ∧ lo ≤ bt s a ∧ bt s a ≤ hi)

theorem inn_yes {s : ByteArray} {a : Nat} {lo hi : Int} (h : a < s.size) (h1 : lo ≤ bt s a) (h2 : bt s a ≤ hi) : inn s a lo hi = true := by
  unfold inn; exact decide_eq_true ⟨h, h1, h2⟩
theorem inn_no {s : ByteArray} {a : Nat} {lo hi : Int} (h : s.size ≤ a ∨ bt s a < lo ∨ hi < bt s a) : inn s a lo hi = false := by
  unfold inn; exact decide_eq_false (by omega)
theorem inn_iff {s : ByteArray} {a : Nat} {lo hi : Int} : inn s a lo hi = true ↔ (a < s.size ∧ lo ≤ bt s a ∧ bt s a ≤ hi) := by
  unfold inn; exact decide_eq_true_iff
theorem inn_not {s : ByteArray} {a : Nat} {lo hi : Int} : inn s a lo hi = false ↔ (s.size ≤ a ∨ bt s a < lo ∨ hi < bt s a) := by
  unfold inn; rw [decide_eq_false_iff_not]; omega

/-- How many bytes the character has that begins at this place; 0: none does. -/
def Ch (s : ByteArray) (a : Nat) : Nat :=
  if inn s a 0 127 then 1
  else if inn s a 194 223 && inn s (a + 1) 128 191 then 2
  else if inn s a 224 239 && inn s (a + 1) (if inn s a 224 224 then 160 else 128) (if inn s a 237 237 then 159 else 191) && inn s (a + 2) 128 191 then 3
  else if inn s a 240 244 && inn s (a + 1) (if inn s a 240 240 then 144 else 128) (if inn s a 244 244 then 143 else 191) && inn s (a + 2) 128 191 && inn s (a + 3) 128 191 then 4
  else 0

theorem Ch_le (s : ByteArray) (a : Nat) : a + Ch s a ≤ max a s.size := by
  unfold Ch
  repeat' split
  all_goals simp only [Bool.and_eq_true, inn_iff] at *
  all_goals omega

theorem Ch_max (s : ByteArray) (a : Nat) : Ch s a ≤ 4 := by
  unfold Ch
  repeat' split
  all_goals omega

theorem get_bang (s : ByteArray) (k : Nat) : ((s.get! k).toNat : Int) = bt s k := by
  unfold bt
  split
  · rename_i h
    have : s.get! k = s[k]'h := by simp [ByteArray.get!, getElem!_pos, h]; rfl
    rw [this]
  · rename_i h
    have : s.get! k = 0 := by
      simp only [ByteArray.get!]
      rw [getElem!_neg _ _ (by simpa using h)]; rfl
    rw [this]; rfl

/-- Do the three bytes of the character U+FFFD begin here? -/
def spelt (s : ByteArray) (a : Nat) : Bool := inn s a 239 239 && inn s (a + 1) 191 191 && inn s (a + 2) 189 189

/-- The decoder over four bytes and three words on whether they are there. -/
def dec (b0 b1 b2 b3 : Nat) (l1 l2 l3 : Bool) : Nat × Nat :=
  if b0 < 128 then (b0, 1)
  else if b0 / 32 == 6 && (l1 && b1 / 64 == 2) then
    (if (b0 % 32) * 64 + b1 % 64 ≥ 128 then ((b0 % 32) * 64 + b1 % 64, 2) else (65533, 1))
  else if b0 / 16 == 14 && (l1 && b1 / 64 == 2) && (l2 && b2 / 64 == 2) then
    (if (b0 % 16) * 4096 + (b1 % 64) * 64 + b2 % 64 ≥ 2048 && Utf8.valid (((b0 % 16) * 4096 + (b1 % 64) * 64 + b2 % 64 : Nat) : Int) then ((b0 % 16) * 4096 + (b1 % 64) * 64 + b2 % 64, 3) else (65533, 1))
  else if b0 / 8 == 30 && (l1 && b1 / 64 == 2) && (l2 && b2 / 64 == 2) && (l3 && b3 / 64 == 2) then
    (if (b0 % 8) * 262144 + (b1 % 64) * 4096 + (b2 % 64) * 64 + b3 % 64 ≥ 65536 && Utf8.valid (((b0 % 8) * 262144 + (b1 % 64) * 4096 + (b2 % 64) * 64 + b3 % 64 : Nat) : Int) then ((b0 % 8) * 262144 + (b1 % 64) * 4096 + (b2 % 64) * 64 + b3 % 64, 4) else (65533, 1))
  else (65533, 1)

def gb (s : ByteArray) (k : Nat) : Nat := (s.get! k).toNat

theorem decode_dec (s : ByteArray) (a : Nat) : Utf8.decode s a = dec (gb s a) (gb s (a + 1)) (gb s (a + 2)) (gb s (a + 3)) (decide (a + 1 < s.size)) (decide (a + 2 < s.size)) (decide (a + 3 < s.size)) := rfl

theorem gb_bt (s : ByteArray) (k : Nat) : bt s k = (gb s k : Int) := (get_bang s k).symm
theorem gb_lt (s : ByteArray) (k : Nat) : gb s k < 256 := (s.get! k).toNat_lt

/-- What the decoder says where no character begins; and of each character. -/
theorem dec_cases (b0 b1 b2 b3 : Nat) (l1 l2 l3 : Bool) (h0 : b0 < 256) (h1 : b1 < 256) (h2 : b2 < 256) (h3 : b3 < 256) :
    (b0 < 128 ∧ dec b0 b1 b2 b3 l1 l2 l3 = (b0, 1)) ∨
    (194 ≤ b0 ∧ b0 ≤ 223 ∧ l1 = true ∧ 128 ≤ b1 ∧ b1 ≤ 191 ∧ dec b0 b1 b2 b3 l1 l2 l3 = ((b0 % 32) * 64 + b1 % 64, 2)) ∨
    (224 ≤ b0 ∧ b0 ≤ 239 ∧ l1 = true ∧ 128 ≤ b1 ∧ b1 ≤ 191 ∧ (b0 = 224 → 160 ≤ b1) ∧ (b0 = 237 → b1 ≤ 159) ∧ l2 = true ∧ 128 ≤ b2 ∧ b2 ≤ 191 ∧ dec b0 b1 b2 b3 l1 l2 l3 = ((b0 % 16) * 4096 + (b1 % 64) * 64 + b2 % 64, 3)) ∨
    (240 ≤ b0 ∧ b0 ≤ 244 ∧ l1 = true ∧ 128 ≤ b1 ∧ b1 ≤ 191 ∧ (b0 = 240 → 144 ≤ b1) ∧ (b0 = 244 → b1 ≤ 143) ∧ l2 = true ∧ 128 ≤ b2 ∧ b2 ≤ 191 ∧ l3 = true ∧ 128 ≤ b3 ∧ b3 ≤ 191 ∧ dec b0 b1 b2 b3 l1 l2 l3 = ((b0 % 8) * 262144 + (b1 % 64) * 4096 + (b2 % 64) * 64 + b3 % 64, 4)) ∨
    (128 ≤ b0 ∧ ¬ (194 ≤ b0 ∧ b0 ≤ 223 ∧ l1 = true ∧ 128 ≤ b1 ∧ b1 ≤ 191) ∧
      ¬ (224 ≤ b0 ∧ b0 ≤ 239 ∧ l1 = true ∧ 128 ≤ b1 ∧ b1 ≤ 191 ∧ (b0 = 224 → 160 ≤ b1) ∧ (b0 = 237 → b1 ≤ 159) ∧ l2 = true ∧ 128 ≤ b2 ∧ b2 ≤ 191) ∧
      ¬ (240 ≤ b0 ∧ b0 ≤ 244 ∧ l1 = true ∧ 128 ≤ b1 ∧ b1 ≤ 191 ∧ (b0 = 240 → 144 ≤ b1) ∧ (b0 = 244 → b1 ≤ 143) ∧ l2 = true ∧ 128 ≤ b2 ∧ b2 ≤ 191 ∧ l3 = true ∧ 128 ≤ b3 ∧ b3 ≤ 191) ∧
      dec b0 b1 b2 b3 l1 l2 l3 = (65533, 1)) := by
  unfold dec
  by_cases c0 : b0 < 128
  · exact Or.inl ⟨c0, by rw [if_pos c0]⟩
  rw [if_neg c0]
  by_cases c1 : (b0 / 32 == 6 && (l1 && b1 / 64 == 2)) = true
  · rw [if_pos c1]
    simp only [Bool.and_eq_true, beq_iff_eq] at c1
    by_cases d1 : (b0 % 32) * 64 + b1 % 64 ≥ 128
    · rw [if_pos d1]
      exact Or.inr (Or.inl ⟨by omega, by omega, c1.2.1, by omega, by omega, rfl⟩)
    · rw [if_neg d1]
      exact Or.inr (Or.inr (Or.inr (Or.inr ⟨by omega, by omega, by omega, by omega, rfl⟩)))
  rw [if_neg c1]
  simp only [Bool.and_eq_true, beq_iff_eq] at c1
  have n1 : ¬ (194 ≤ b0 ∧ b0 ≤ 223 ∧ l1 = true ∧ 128 ≤ b1 ∧ b1 ≤ 191) := fun h => c1 ⟨by omega, h.2.2.1, by omega⟩
  by_cases c2 : (b0 / 16 == 14 && (l1 && b1 / 64 == 2) && (l2 && b2 / 64 == 2)) = true
  · rw [if_pos c2]
    simp only [Bool.and_eq_true, beq_iff_eq] at c2
    by_cases d2 : ((b0 % 16) * 4096 + (b1 % 64) * 64 + b2 % 64 ≥ 2048 && Utf8.valid (((b0 % 16) * 4096 + (b1 % 64) * 64 + b2 % 64 : Nat) : Int)) = true
    · rw [if_pos d2]
      simp only [Utf8.valid, Bool.and_eq_true, Bool.or_eq_true, decide_eq_true_eq] at d2
      exact Or.inr (Or.inr (Or.inl ⟨by omega, by omega, c2.1.2.1, by omega, by omega, by omega, by omega, c2.2.1, by omega, by omega, rfl⟩))
    · rw [if_neg d2]
      simp only [Utf8.valid, Bool.and_eq_true, Bool.or_eq_true, decide_eq_true_eq] at d2
      exact Or.inr (Or.inr (Or.inr (Or.inr ⟨by omega, n1, by omega, by omega, rfl⟩)))
  rw [if_neg c2]
  simp only [Bool.and_eq_true, beq_iff_eq] at c2
  have n2 : ¬ (224 ≤ b0 ∧ b0 ≤ 239 ∧ l1 = true ∧ 128 ≤ b1 ∧ b1 ≤ 191 ∧ (b0 = 224 → 160 ≤ b1) ∧ (b0 = 237 → b1 ≤ 159) ∧ l2 = true ∧ 128 ≤ b2 ∧ b2 ≤ 191) :=
    fun h => c2 ⟨⟨by omega, h.2.2.1, by omega⟩, h.2.2.2.2.2.2.2.1, by omega⟩
  by_cases c3 : (b0 / 8 == 30 && (l1 && b1 / 64 == 2) && (l2 && b2 / 64 == 2) && (l3 && b3 / 64 == 2)) = true
  · rw [if_pos c3]
    simp only [Bool.and_eq_true, beq_iff_eq] at c3
    by_cases d3 : ((b0 % 8) * 262144 + (b1 % 64) * 4096 + (b2 % 64) * 64 + b3 % 64 ≥ 65536 && Utf8.valid (((b0 % 8) * 262144 + (b1 % 64) * 4096 + (b2 % 64) * 64 + b3 % 64 : Nat) : Int)) = true
    · rw [if_pos d3]
      simp only [Utf8.valid, Bool.and_eq_true, Bool.or_eq_true, decide_eq_true_eq] at d3
      exact Or.inr (Or.inr (Or.inr (Or.inl ⟨by omega, by omega, c3.1.1.2.1, by omega, by omega, by omega, by omega, c3.1.2.1, by omega, by omega, c3.2.1, by omega, by omega, rfl⟩)))
    · rw [if_neg d3]
      simp only [Utf8.valid, Bool.and_eq_true, Bool.or_eq_true, decide_eq_true_eq] at d3
      exact Or.inr (Or.inr (Or.inr (Or.inr ⟨by omega, n1, n2, by omega, rfl⟩)))
  rw [if_neg c3]
  simp only [Bool.and_eq_true, beq_iff_eq] at c3
  exact Or.inr (Or.inr (Or.inr (Or.inr ⟨by omega, n1, n2, fun h => c3 ⟨⟨⟨by omega, h.2.2.1, by omega⟩, h.2.2.2.2.2.2.2.1, by omega⟩, h.2.2.2.2.2.2.2.2.2.2.1, by omega⟩, rfl⟩)))

theorem ite_lo {b : Bool} {x y z : Int} : (if b then x else y) ≤ z ↔ ((b = true → x ≤ z) ∧ (b = false → y ≤ z)) := by cases b <;> simp
theorem ite_hi {b : Bool} {x y z : Int} : z ≤ (if b then x else y) ↔ ((b = true → z ≤ x) ∧ (b = false → z ≤ y)) := by cases b <;> simp

theorem Ch_one {s : ByteArray} {a : Nat} (h : a < s.size) (h0 : bt s a ≤ 127) : Ch s a = 1 := by
  unfold Ch; rw [if_pos (inn_yes h (bt_nonneg s a) h0)]
theorem Ch_two {s : ByteArray} {a : Nat} (h : a + 1 < s.size) (h1 : 194 ≤ bt s a) (h2 : bt s a ≤ 223) (h3 : 128 ≤ bt s (a + 1)) (h4 : bt s (a + 1) ≤ 191) : Ch s a = 2 := by
  unfold Ch; rw [inn_no (by omega), inn_yes (by omega) h1 h2, inn_yes h h3 h4]; rfl
theorem Ch_three {s : ByteArray} {a : Nat} (h : a + 2 < s.size) (h1 : 224 ≤ bt s a) (h2 : bt s a ≤ 239) (h3 : 128 ≤ bt s (a + 1)) (h4 : bt s (a + 1) ≤ 191)
    (h5 : bt s a = 224 → 160 ≤ bt s (a + 1)) (h6 : bt s a = 237 → bt s (a + 1) ≤ 159) (h7 : 128 ≤ bt s (a + 2)) (h8 : bt s (a + 2) ≤ 191) : Ch s a = 3 := by
  have e : inn s (a + 1) (if inn s a 224 224 then 160 else 128) (if inn s a 237 237 then 159 else 191) = true :=
    inn_yes (by omega) (by rw [ite_lo, inn_iff]; omega) (by rw [ite_hi, inn_iff]; omega)
  unfold Ch; rw [inn_no (a := a) (lo := 0) (by omega), inn_no (a := a) (lo := 194) (by omega), inn_yes (a := a) (lo := 224) (hi := 239) (by omega) h1 h2, e, inn_yes (a := a + 2) h h7 h8]; rfl
theorem Ch_four {s : ByteArray} {a : Nat} (h : a + 3 < s.size) (h1 : 240 ≤ bt s a) (h2 : bt s a ≤ 244) (h3 : 128 ≤ bt s (a + 1)) (h4 : bt s (a + 1) ≤ 191)
    (h5 : bt s a = 240 → 144 ≤ bt s (a + 1)) (h6 : bt s a = 244 → bt s (a + 1) ≤ 143) (h7 : 128 ≤ bt s (a + 2)) (h8 : bt s (a + 2) ≤ 191) (h9 : 128 ≤ bt s (a + 3)) (h10 : bt s (a + 3) ≤ 191) : Ch s a = 4 := by
  have e : inn s (a + 1) (if inn s a 240 240 then 144 else 128) (if inn s a 244 244 then 143 else 191) = true :=
    inn_yes (by omega) (by rw [ite_lo, inn_iff]; omega) (by rw [ite_hi, inn_iff]; omega)
  unfold Ch; rw [inn_no (a := a) (lo := 0) (by omega), inn_no (a := a) (lo := 194) (by omega), inn_no (a := a) (lo := 224) (hi := 239) (by omega), inn_yes (a := a) (lo := 240) (hi := 244) (by omega) h1 h2, e, inn_yes (a := a + 2) (by omega) h7 h8, inn_yes (a := a + 3) h h9 h10]; rfl
theorem Ch_zero {s : ByteArray} {a : Nat} (h0 : s.size ≤ a ∨ 128 ≤ bt s a) (h1 : ¬ (194 ≤ bt s a ∧ bt s a ≤ 223 ∧ a + 1 < s.size ∧ 128 ≤ bt s (a + 1) ∧ bt s (a + 1) ≤ 191))
    (h2 : ¬ (224 ≤ bt s a ∧ bt s a ≤ 239 ∧ a + 1 < s.size ∧ 128 ≤ bt s (a + 1) ∧ bt s (a + 1) ≤ 191 ∧ (bt s a = 224 → 160 ≤ bt s (a + 1)) ∧ (bt s a = 237 → bt s (a + 1) ≤ 159) ∧ a + 2 < s.size ∧ 128 ≤ bt s (a + 2) ∧ bt s (a + 2) ≤ 191))
    (h3 : ¬ (240 ≤ bt s a ∧ bt s a ≤ 244 ∧ a + 1 < s.size ∧ 128 ≤ bt s (a + 1) ∧ bt s (a + 1) ≤ 191 ∧ (bt s a = 240 → 144 ≤ bt s (a + 1)) ∧ (bt s a = 244 → bt s (a + 1) ≤ 143) ∧ a + 2 < s.size ∧ 128 ≤ bt s (a + 2) ∧ bt s (a + 2) ≤ 191 ∧ a + 3 < s.size ∧ 128 ≤ bt s (a + 3) ∧ bt s (a + 3) ≤ 191)) : Ch s a = 0 := by
  unfold Ch
  rw [inn_no (a := a) (lo := 0) (by omega)]
  have e2 : (inn s a 194 223 && inn s (a + 1) 128 191) = false := by
    rw [Bool.and_eq_false_iff, inn_not, inn_not]; omega
  have e3 : (inn s a 224 239 && inn s (a + 1) (if inn s a 224 224 then 160 else 128) (if inn s a 237 237 then 159 else 191) && inn s (a + 2) 128 191) = false := by
    rw [← Bool.not_eq_true]; simp only [Bool.and_eq_true, inn_iff]; omega
  have e4 : (inn s a 240 244 && inn s (a + 1) (if inn s a 240 240 then 144 else 128) (if inn s a 244 244 then 143 else 191) && inn s (a + 2) 128 191 && inn s (a + 3) 128 191) = false := by
    rw [← Bool.not_eq_true]; simp only [Bool.and_eq_true, inn_iff]; omega
  rw [e2, e3, e4]; rfl

/-- THE FOUR WORDS ON ONE STEP: the decoder's width is the character's, or one where none begins; a nought is a nought; U+FFFD is told from no character by its bytes. -/
theorem step_facts (s : ByteArray) (a : Nat) (h : a < s.size) :
    (Utf8.decode s a).2 = max 1 (Ch s a) ∧ ((Utf8.decode s a).1 = 0 ↔ bt s a = 0) ∧
    (Ch s a = 0 ↔ ((Utf8.decode s a).1 = 65533 ∧ spelt s a = false)) := by
  have g0 := gb_bt s a; have g1 := gb_bt s (a + 1); have g2 := gb_bt s (a + 2); have g3 := gb_bt s (a + 3)
  have k0 := gb_lt s a; have k1 := gb_lt s (a + 1); have k2 := gb_lt s (a + 2); have k3 := gb_lt s (a + 3)
  have H := dec_cases (gb s a) (gb s (a + 1)) (gb s (a + 2)) (gb s (a + 3)) (decide (a + 1 < s.size)) (decide (a + 2 < s.size)) (decide (a + 3 < s.size)) k0 k1 k2 k3
  rw [decode_dec]
  have hs : spelt s a = true ↔ (bt s a = 239 ∧ bt s (a + 1) = 191 ∧ bt s (a + 2) = 189 ∧ a + 2 < s.size) := by
    unfold spelt; rw [Bool.and_eq_true, Bool.and_eq_true, inn_iff, inn_iff, inn_iff]; omega
  have hn : spelt s a = false ↔ ¬ (bt s a = 239 ∧ bt s (a + 1) = 191 ∧ bt s (a + 2) = 189 ∧ a + 2 < s.size) := by
    rw [← hs]; simp
  rw [hn]
  generalize dec (gb s a) (gb s (a + 1)) (gb s (a + 2)) (gb s (a + 3)) (decide (a + 1 < s.size)) (decide (a + 2 < s.size)) (decide (a + 3 < s.size)) = D at *
  simp only [decide_eq_true_eq] at H
  rcases H with ⟨p, rfl⟩ | ⟨p1, p2, p3, p4, p5, rfl⟩ | ⟨p1, p2, p3, p4, p5, p6, p7, p8, p9, p10, rfl⟩ | ⟨p1, p2, p3, p4, p5, p6, p7, p8, p9, p10, p11, p12, p13, rfl⟩ | ⟨p0, p1, p2, p3, rfl⟩
  · rw [Ch_one h (by omega)]; simp only []; omega
  · rw [Ch_two p3 (by omega) (by omega) (by omega) (by omega)]; simp only []; omega
  · rw [Ch_three p8 (by omega) (by omega) (by omega) (by omega) (by omega) (by omega) (by omega) (by omega)]; simp only []; omega
  · rw [Ch_four p11 (by omega) (by omega) (by omega) (by omega) (by omega) (by omega) (by omega) (by omega) (by omega) (by omega)]; simp only []; omega
  · rw [Ch_zero (by omega) (by omega) (by omega) (by omega)]; refine ⟨rfl, ⟨fun q => ?_, fun q => ?_⟩, ⟨fun _ => ⟨rfl, ?_⟩, fun _ => rfl⟩⟩
    · exact absurd q (by decide)
    · omega
    · omega

/-- The place of the first piece that is no character, or is 00, from a place on; the text's length, if there is none. -/
def Bd (s : ByteArray) : Nat → Nat → Nat
  | 0, _ => s.size
  | n + 1, p => if p < s.size then (if Ch s p = 0 ∨ bt s p = 0 then p else Bd s n (p + Ch s p)) else s.size
def bad (s : ByteArray) : Nat := Bd s s.size 0
def good (s : ByteArray) : Bool := decide (bad s = s.size)

theorem Bd_end (s : ByteArray) (n p : Nat) (h : s.size ≤ p) : Bd s n p = s.size := by
  cases n with
  | zero => rfl
  | succ n => rw [Bd, if_neg (by omega)]
theorem Bd_here {s : ByteArray} {n p : Nat} (h : p < s.size) (hb : s.size ≤ p + n) (h0 : Ch s p = 0 ∨ bt s p = 0) : Bd s n p = p := by
  cases n with
  | zero => omega
  | succ n => rw [Bd, if_pos h, if_pos h0]
theorem Bd_next {s : ByteArray} {n p : Nat} (h : p < s.size) (h0 : Ch s p ≠ 0) (h1 : bt s p ≠ 0) : Bd s (n + 1) p = Bd s n (p + Ch s p) := by
  rw [Bd, if_pos h, if_neg (by omega)]
theorem Bd_le (s : ByteArray) : ∀ n p, Bd s n p ≤ s.size
  | 0, _ => Nat.le_refl _
  | n + 1, p => by
    have := Bd_le s n (p + Ch s p)
    unfold Bd
    repeat' split
    all_goals omega
theorem bad_le (s : ByteArray) : bad s ≤ s.size := Bd_le s _ _

/-- The end of the longest beginning of whole pieces with at most so many bytes. -/
def Ct (s : ByteArray) (most : Int) : Nat → Nat → Nat
  | 0, p => p
  | n + 1, p => if p < s.size then (if most < (p : Int) + max 1 (Ch s p) then p else Ct s most n (p + max 1 (Ch s p))) else p
def cut (s : ByteArray) (most : Int) : Nat := Ct s most s.size 0
theorem Ct_end {s : ByteArray} {most : Int} {n p : Nat} (h : s.size ≤ p) : Ct s most n p = p := by
  cases n with
  | zero => rfl
  | succ n => rw [Ct, if_neg (by omega)]
theorem Ct_stop {s : ByteArray} {most : Int} {n p : Nat} (h0 : most < (p : Int) + max 1 (Ch s p)) : Ct s most n p = p := by
  cases n with
  | zero => rfl
  | succ n =>
    rw [Ct, if_pos h0]
    split <;> rfl
theorem Ct_next {s : ByteArray} {most : Int} {n p : Nat} (h : p < s.size) (h0 : (p : Int) + max 1 (Ch s p) ≤ most) : Ct s most (n + 1) p = Ct s most n (p + max 1 (Ch s p)) := by
  rw [Ct, if_pos h, if_neg (by omega)]
theorem piece_le (s : ByteArray) (p : Nat) (h : p < s.size) : p + max 1 (Ch s p) ≤ s.size := by
  have := Ch_le s p
  omega
theorem Ct_le (s : ByteArray) (most : Int) : ∀ n p, p ≤ s.size → Ct s most n p ≤ s.size
  | 0, _, h => h
  | n + 1, p, h => by
    unfold Ct
    split
    · have := piece_le s p (by omega)
      have := Ct_le s most n (p + max 1 (Ch s p)) this
      split <;> omega
    · omega
theorem cut_le (s : ByteArray) (most : Int) : cut s most ≤ s.size := Ct_le s most _ _ (Nat.zero_le _)
/-- All of it fits: all of it. -/
theorem Ct_all (s : ByteArray) (most : Int) (hm : (s.size : Int) ≤ most) : ∀ n p, p ≤ s.size → s.size ≤ p + n → Ct s most n p = s.size
  | 0, p, h, hb => by show p = s.size; omega
  | n + 1, p, h, hb => by
    unfold Ct
    split
    · rename_i hp
      have := piece_le s p hp
      rw [if_neg (by omega)]
      exact Ct_all s most hm n _ this (by omega)
    · omega
theorem cut_all (s : ByteArray) (most : Int) (hm : (s.size : Int) ≤ most) : cut s most = s.size := Ct_all s most hm _ _ (Nat.zero_le _) (by omega)
end Go.Proofs.YteeheapenfklcaaGreatDoor.Utf
