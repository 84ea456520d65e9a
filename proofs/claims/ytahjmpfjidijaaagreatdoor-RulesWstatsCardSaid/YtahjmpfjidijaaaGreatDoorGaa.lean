/- Which blocks a step may turn: 'Kept S w w'': but for the blocks of the list S, what was there is as it was. Plain facts on worlds, on blocks of a few cells. No program's run. Plain facts on texts: the characters of the reference (Ch), the place of the first bad piece (Bd), and how the model's own decoder of runes goes with them. No program's run. The reference's within and Character: what they answer at every place of a text; they turn nothing. WHAT EACH FUNCTION OF TEXTS DOES (Bad, Good, Cut of the reference; firstBad, Good, Cut of wire): for every text and number; no block that was there is turned. -/
import Derived.Deep.AppendLies
import Derived.Below
import Derived.WalkSmall
import Derived.OneCell
import Derived.Lib.RuneCount
import Derived.PlainAid
import Derived.Test.YtahjmpfjidijaaaGreatDoorProg
import Derived.WalkKit
import Derived.Deep.QuietTactic
import Derived.BigQuiet
import Derived.WalkSpells
import Derived.WalkLawsBesides
import Derived.Outline
import Derived.Handy
import Derived.Lib.Hide
section
namespace Go.Proofs.YtahjmpfjidijaaaGreatDoor
open Go.RowKit

structure Kept (S : List Nat) (w w' : World) : Prop where
  os : w'.os = w.os
  tape : w'.tape = w.tape
  output : w'.output = w.output
  size : w.heap.size ≤ w'.heap.size
  block : ∀ k, k < w.heap.size → k ∉ S → w'.heap[k]? = w.heap[k]?

theorem Kept.refl (S : List Nat) (w : World) : Kept S w w := ⟨rfl, rfl, rfl, Nat.le_refl _, fun _ _ _ => rfl⟩
/-- What the second step may turn the first may, too, or it is new. -/
theorem Kept.trans {S T : List Nat} {a b c : World} (h : Kept S a b) (k : Kept T b c) (hT : ∀ i ∈ T, i ∈ S ∨ a.heap.size ≤ i) : Kept S a c :=
  ⟨k.os.trans h.os, k.tape.trans h.tape, k.output.trans h.output, Nat.le_trans h.size k.size, fun i hi hn =>
    (k.block i (Nat.lt_of_lt_of_le hi h.size) (fun ht => by rcases hT i ht with q | q; exact hn q; omega)).trans (h.block i hi hn)⟩
theorem Kept.mono {S T : List Nat} {w w' : World} (h : Kept S w w') (hT : ∀ i ∈ S, i ∈ T ∨ w.heap.size ≤ i) : Kept T w w' :=
  ⟨h.os, h.tape, h.output, h.size, fun i hi hn => h.block i hi (fun hs => by rcases hT i hs with q | q; exact hn q; omega)⟩
theorem Kept.drew {S : List Nat} {a w : World} (h : Kept S a w) : Kept S a w.drew := ⟨h.os, h.tape, h.output, h.size, h.block⟩
theorem Kept.drewN {S : List Nat} {a w : World} (h : Kept S a w) (n : Nat) : Kept S a (w.drewN n) := ⟨h.os, h.tape, h.output, h.size, h.block⟩
theorem Kept.alloc {S : List Nat} {a w : World} (h : Kept S a w) (o : Obj) : Kept S a (w.alloc o) :=
  ⟨h.os, h.tape, h.output, Nat.le_trans h.size (by simp), fun i hi hn => (Below.heap_alloc _ _ _ (Nat.lt_of_lt_of_le hi h.size)).trans (h.block i hi hn)⟩
theorem Kept.setCell {S : List Nat} {a w : World} (h : Kept S a w) {p : Addr} (hp : p.block ∈ S ∨ a.heap.size ≤ p.block) (u : Value) : Kept S a (w.setCell p u) :=
  ⟨h.os, h.tape, h.output, Nat.le_trans h.size (by simp [World.setCell]), fun i hi hn => (Below.heap_setCell _ _ _ _ (fun e => by subst e; rcases hp with q | q; exact hn q; omega)).trans (h.block i hi hn)⟩
theorem Kept.grown {S : List Nat} {a w w' : World} {row : Option Nat} (h : Kept S a w) (hg : w.grownBy w' row) (hr : ∀ k, row = some k → k ∈ S ∨ a.heap.size ≤ k) : Kept S a w' :=
  ⟨hg.os.trans h.os, hg.tape.trans h.tape, hg.output.trans h.output, Nat.le_trans h.size hg.size, fun i hi hn =>
    (hg.block i (Nat.lt_of_lt_of_le hi h.size) (fun e => by rcases hr i e.symm with q | q; exact hn q; omega)).trans (h.block i hi hn)⟩
theorem Kept.of_below {w w' : World} (h : Below w.heap.size w w') (S : List Nat) : Kept S w w' := ⟨h.os, h.tape, h.output, h.size, fun k hk _ => h.block k hk⟩
theorem Kept.below {S : List Nat} {w w' : World} (h : Kept S w w') {B : Nat} (hS : ∀ i ∈ S, B ≤ i) (hB : B ≤ w.heap.size) : Below B w w' :=
  ⟨h.os, h.tape, h.output, h.size, fun k hk => h.block k (by omega) (fun hs => by have := hS k hs; omega)⟩

theorem block_lt {w : World} {p : Nat} {o : Obj} (h : w.heap[p]? = some o) : p < w.heap.size := (Array.getElem?_eq_some_iff.1 h).1

/-- The cells of a block of four. -/
theorem four {w : World} {p : Nat} {a b c d : Value} {t : TypeId} (h : w.heap[p]? = some (.cells #[a, b, c, d] t (0, 0))) :
    w.cell? ⟨p, 0, none⟩ = some a ∧ w.cell? ⟨p, 1, none⟩ = some b ∧ w.cell? ⟨p, 2, none⟩ = some c ∧ w.cell? ⟨p, 3, none⟩ = some d ∧ (∀ i, w.frozen? ⟨p, i, none⟩ = false) := by
  refine ⟨?_, ?_, ?_, ?_, fun i => ?_⟩
  · rw [cell_of_row w p 0 _ t (0, 0) h]; rfl
  · rw [cell_of_row w p 1 _ t (0, 0) h]; rfl
  · rw [cell_of_row w p 2 _ t (0, 0) h]; rfl
  · rw [cell_of_row w p 3 _ t (0, 0) h]; rfl
  · simp [World.frozen?, h]

theorem heap_set {w : World} {p i : Nat} {cs : Array Value} {t : TypeId} (x : Value) (h : w.heap[p]? = some (.cells cs t (0, 0))) :
    (w.setCell ⟨p, i, none⟩ x).heap[p]? = some (.cells (cs.setIfInBounds i x) t (0, 0)) := by
  simp only [World.setCell, Array.getElem?_modify]
  simp [h]
end Go.Proofs.YtahjmpfjidijaaaGreatDoor
end
section
namespace Go.Proofs.YtahjmpfjidijaaaGreatDoor.Utf
open Go.PlainAid

/-- Is there a byte at this place, from lo to hi? -/
def inn (s : ByteArray) (a : Nat) (lo hi : Int) : Bool := decide (a < s.size ∧ lo ≤ bt s a ∧ bt s a ≤ hi)

theorem inn_yes {s : ByteArray} {a : Nat} {lo hi : Int} (h : a < s.size) (h1 : lo ≤ bt s a) (h2 : bt s a ≤ hi) : inn s a lo hi = true := by
  unfold inn; exact decide_eq_true ⟨h, h1, h2⟩
theorem inn_no {s : ByteArray} {a : Nat} {lo hi : Int} (h : s.size ≤ a ∨ bt s a < lo ∨ hi < bt s a) : inn s a lo hi = false := by
  unfold inn; exact decide_eq_false (by omega)
theorem inn_iff {s : ByteArray} {a : Nat} {lo hi : Int} : inn s a lo hi = true ↔ (a < s.size ∧ lo ≤ bt s a ∧ bt s a ≤ hi) := by
  unfold inn; exact decide_eq_true_iff
theorem inn_not {s : ByteArray} {a : Nat} {lo hi : Int} : inn s a lo hi = false ↔ (s.size ≤ a ∨ bt s a < lo ∨ hi < bt s a) := by
  unfold inn; rw [decide_eq_false_iff_not]; omega

/-- How many bytes the character has that begins at this place; 0: none does. -/
def Ch (s : ByteArray) (a : Nat) : Nat :=
  if inn s a 0 127 then 1
  else if inn s a 194 223 && inn s (a + 1) 128 191 then 2
  else if inn s a 224 239 && inn s (a + 1) (if inn s a 224 224 then 160 else 128) (if inn s a 237 237 then 159 else 191) && inn s (a + 2) 128 191 then 3
  else if inn s a 240 244 && inn s (a + 1) (if inn s a 240 240 then 144 else 128) (if inn s a 244 244 then 143 else 191) && inn s (a + 2) 128 191 && inn s (a + 3) 128 191 then 4
  else 0

theorem Ch_le (s : ByteArray) (a : Nat) : a + Ch s a ≤ max a s.size := by
  unfold Ch
  repeat' split
  all_goals simp only [Bool.and_eq_true, inn_iff] at *
  all_goals omega

theorem Ch_max (s : ByteArray) (a : Nat) : Ch s a ≤ 4 := by
  unfold Ch
  repeat' split
  all_goals omega

theorem get_bang (s : ByteArray) (k : Nat) : ((s.get! k).toNat : Int) = bt s k := by
  unfold bt
  split
  · rename_i h
    have : s.get! k = s[k]'h := by simp [ByteArray.get!, getElem!_pos, h]; rfl
    rw [this]
  · rename_i h
    have : s.get! k = 0 := by
      simp only [ByteArray.get!]
      rw [getElem!_neg _ _ (by simpa using h)]; rfl
    rw [this]; rfl

/-- Do the three bytes of the character U+FFFD begin here? -/
def spelt (s : ByteArray) (a : Nat) : Bool := inn s a 239 239 && inn s (a + 1) 191 191 && inn s (a + 2) 189 189

/-- The decoder over four bytes and three words on whether they are there. -/
def dec (b0 b1 b2 b3 : Nat) (l1 l2 l3 : Bool) : Nat × Nat :=
  if b0 < 128 then (b0, 1)
  else if b0 / 32 == 6 && (l1 && b1 / 64 == 2) then
    (if (b0 % 32) * 64 + b1 % 64 ≥ 128 then ((b0 % 32) * 64 + b1 % 64, 2) else (65533, 1))
  else if b0 / 16 == 14 && (l1 && b1 / 64 == 2) && (l2 && b2 / 64 == 2) then
    (if (b0 % 16) * 4096 + (b1 % 64) * 64 + b2 % 64 ≥ 2048 && Utf8.valid (((b0 % 16) * 4096 + (b1 % 64) * 64 + b2 % 64 : Nat) : Int) then ((b0 % 16) * 4096 + (b1 % 64) * 64 + b2 % 64, 3) else (65533, 1))
  else if b0 / 8 == 30 && (l1 && b1 / 64 == 2) && (l2 && b2 / 64 == 2) && (l3 && b3 / 64 == 2) then
    (if (b0 % 8) * 262144 + (b1 % 64) * 4096 + (b2 % 64) * 64 + b3 % 64 ≥ 65536 && Utf8.valid (((b0 % 8) * 262144 + (b1 % 64) * 4096 + (b2 % 64) * 64 + b3 % 64 : Nat) : Int) then ((b0 % 8) * 262144 + (b1 % 64) * 4096 + (b2 % 64) * 64 + b3 % 64, 4) else (65533, 1))
  else (65533, 1)

def gb (s : ByteArray) (k : Nat) : Nat := (s.get! k).toNat

theorem decode_dec (s : ByteArray) (a : Nat) : Utf8.decode s a = dec (gb s a) (gb s (a + 1)) (gb s (a + 2)) (gb s (a + 3)) (decide (a + 1 < s.size)) (decide (a + 2 < s.size)) (decide (a + 3 < s.size)) := rfl

theorem gb_bt (s : ByteArray) (k : Nat) : bt s k = (gb s k : Int) := (get_bang s k).symm
theorem gb_lt (s : ByteArray) (k : Nat) : gb s k < 256 := (s.get! k).toNat_lt

/-- What the decoder says where no character begins; and of each character. -/
theorem dec_cases (b0 b1 b2 b3 : Nat) (l1 l2 l3 : Bool) (h0 : b0 < 256) (h1 : b1 < 256) (h2 : b2 < 256) (h3 : b3 < 256) :
    (b0 < 128 ∧ dec b0 b1 b2 b3 l1 l2 l3 = (b0, 1)) ∨
    (194 ≤ b0 ∧ b0 ≤ 223 ∧ l1 = true ∧ 128 ≤ b1 ∧ b1 ≤ 191 ∧ dec b0 b1 b2 b3 l1 l2 l3 = ((b0 % 32) * 64 + b1 % 64, 2)) ∨
    (224 ≤ b0 ∧ b0 ≤ 239 ∧ l1 = true ∧ 128 ≤ b1 ∧ b1 ≤ 191 ∧ (b0 = 224 → 160 ≤ b1) ∧ (b0 = 237 → b1 ≤ 159) ∧ l2 = true ∧ 128 ≤ b2 ∧ b2 ≤ 191 ∧ dec b0 b1 b2 b3 l1 l2 l3 = ((b0 % 16) * 4096 + (b1 % 64) * 64 + b2 % 64, 3)) ∨
    (240 ≤ b0 ∧ b0 ≤ 244 ∧ l1 = true ∧ 128 ≤ b1 ∧ b1 ≤ 191 ∧ (b0 = 240 → 144 ≤ b1) ∧ (b0 = 244 → b1 ≤ 143) ∧ l2 = true ∧ 128 ≤ b2 ∧ b2 ≤ 191 ∧ l3 = true ∧ 128 ≤ b3 ∧ b3 ≤ 191 ∧ dec b0 b1 b2 b3 l1 l2 l3 = ((b0 % 8) * 262144 + (b1 % 64) * 4096 + (b2 % 64) * 64 + b3 % 64, 4)) ∨
    (128 ≤ b0 ∧ ¬ (194 ≤ b0 ∧ b0 ≤ 223 ∧ l1 = true ∧ 128 ≤ b1 ∧ b1 ≤ 191) ∧
      ¬ (224 ≤ b0 ∧ b0 ≤ 239 ∧ l1 = true ∧ 128 ≤ b1 ∧ b1 ≤ 191 ∧ (b0 = 224 → 160 ≤ b1) ∧ (b0 = 237 → b1 ≤ 159) ∧ l2 = true ∧ 128 ≤ b2 ∧ b2 ≤ 191) ∧
      ¬ (240 ≤ b0 ∧ b0 ≤ 244 ∧ l1 = true ∧ 128 ≤ b1 ∧ b1 ≤ 191 ∧ (b0 = 240 → 144 ≤ b1) ∧ (b0 = 244 → b1 ≤ 143) ∧ l2 = true ∧ 128 ≤ b2 ∧ b2 ≤ 191 ∧ l3 = true ∧ 128 ≤ b3 ∧ b3 ≤ 191) ∧
      dec b0 b1 b2 b3 l1 l2 l3 = (65533, 1)) := by
  unfold dec
  by_cases c0 : b0 < 128
  · exact Or.inl ⟨c0, by rw [if_pos c0]⟩
  rw [if_neg c0]
  by_cases c1 : (b0 / 32 == 6 && (l1 && b1 / 64 == 2)) = true
  · rw [if_pos c1]
    simp only [Bool.and_eq_true, beq_iff_eq] at c1
    by_cases d1 : (b0 % 32) * 64 + b1 % 64 ≥ 128
    · rw [if_pos d1]
      exact Or.inr (Or.inl ⟨by omega, by omega, c1.2.1, by omega, by omega, rfl⟩)
    · rw [if_neg d1]
      exact Or.inr (Or.inr (Or.inr (Or.inr ⟨by omega, by omega, by omega, by omega, rfl⟩)))
  rw [if_neg c1]
  simp only [Bool.and_eq_true, beq_iff_eq] at c1
  have n1 : ¬ (194 ≤ b0 ∧ b0 ≤ 223 ∧ l1 = true ∧ 128 ≤ b1 ∧ b1 ≤ 191) := fun h => c1 ⟨by omega, h.2.2.1, by omega⟩
  by_cases c2 : (b0 / 16 == 14 && (l1 && b1 / 64 == 2) && (l2 && b2 / 64 == 2)) = true
  · rw [if_pos c2]
    simp only [Bool.and_eq_true, beq_iff_eq] at c2
    by_cases d2 : ((b0 % 16) * 4096 + (b1 % 64) * 64 + b2 % 64 ≥ 2048 && Utf8.valid (((b0 % 16) * 4096 + (b1 % 64) * 64 + b2 % 64 : Nat) : Int)) = true
    · rw [if_pos d2]
      simp only [Utf8.valid, Bool.and_eq_true, Bool.or_eq_true, decide_eq_true_eq] at d2
      exact Or.inr (Or.inr (Or.inl ⟨by omega, by omega, c2.1.2.1, by omega, by omega, by omega, by omega, c2.2.1, by omega, by omega, rfl⟩))
    · rw [if_neg d2]
      simp only [Utf8.valid, Bool.and_eq_true, Bool.or_eq_true, decide_eq_true_eq] at d2
      exact Or.inr (Or.inr (Or.inr (Or.inr ⟨by omega, n1, by omega, by omega, rfl⟩)))
  rw [if_neg c2]
  simp only [Bool.and_eq_true, beq_iff_eq] at c2
  have n2 : ¬ (224 ≤ b0 ∧ b0 ≤ 239 ∧ l1 = true ∧ 128 ≤ b1 ∧ b1 ≤ 191 ∧ (b0 = 224 → 160 ≤ b1) ∧ (b0 = 237 → b1 ≤ 159) ∧ l2 = true ∧ 128 ≤ b2 ∧ b2 ≤ 191) :=
    fun h => c2 ⟨⟨by omega, h.2.2.1, by omega⟩, h.2.2.2.2.2.2.2.1, by omega⟩
  by_cases c3 : (b0 / 8 == 30 && (l1 && b1 / 64 == 2) && (l2 && b2 / 64 == 2) && (l3 && b3 / 64 == 2)) = true
  · rw [if_pos c3]
    simp only [Bool.and_eq_true, beq_iff_eq] at c3
    by_cases d3 : ((b0 % 8) * 262144 + (b1 % 64) * 4096 + (b2 % 64) * 64 + b3 % 64 ≥ 65536 && Utf8.valid (((b0 % 8) * 262144 + (b1 % 64) * 4096 + (b2 % 64) * 64 + b3 % 64 : Nat) : Int)) = true
    · rw [if_pos d3]
      simp only [Utf8.valid, Bool.and_eq_true, Bool.or_eq_true, decide_eq_true_eq] at d3
      exact Or.inr (Or.inr (Or.inr (Or.inl ⟨by omega, by omega, c3.1.1.2.1, by omega, by omega, by omega, by omega, c3.1.2.1, by omega, by omega, c3.2.1, by omega, by omega, rfl⟩)))
    · rw [if_neg d3]
      simp only [Utf8.valid, Bool.and_eq_true, Bool.or_eq_true, decide_eq_true_eq] at d3
      exact Or.inr (Or.inr (Or.inr (Or.inr ⟨by omega, n1, n2, by omega, rfl⟩)))
  rw [if_neg c3]
  simp only [Bool.and_eq_true, beq_iff_eq] at c3
  exact Or.inr (Or.inr (Or.inr (Or.inr ⟨by omega, n1, n2, fun h => c3 ⟨⟨⟨by omega, h.2.2.1, by omega⟩, h.2.2.2.2.2.2.2.1, by omega⟩, h.2.2.2.2.2.2.2.2.2.2.1, by omega⟩, rfl⟩)))

theorem ite_lo {b : Bool} {x y z : Int} : (if b then x else y) ≤ z ↔ ((b = true → x ≤ z) ∧ (b = false → y ≤ z)) := by cases b <;> simp
theorem ite_hi {b : Bool} {x y z : Int} : z ≤ (if b then x else y) ↔ ((b = true → z ≤ x) ∧ (b = false → z ≤ y)) := by cases b <;> simp

theorem Ch_one {s : ByteArray} {a : Nat} (h : a < s.size) (h0 : bt s a ≤ 127) : Ch s a = 1 := by
  unfold Ch; rw [if_pos (inn_yes h (bt_nonneg s a) h0)]
theorem Ch_two {s : ByteArray} {a : Nat} (h : a + 1 < s.size) (h1 : 194 ≤ bt s a) (h2 : bt s a ≤ 223) (h3 : 128 ≤ bt s (a + 1)) (h4 : bt s (a + 1) ≤ 191) : Ch s a = 2 := by
  unfold Ch; rw [inn_no (by omega), inn_yes (by omega) h1 h2, inn_yes h h3 h4]; rfl
theorem Ch_three {s : ByteArray} {a : Nat} (h : a + 2 < s.size) (h1 : 224 ≤ bt s a) (h2 : bt s a ≤ 239) (h3 : 128 ≤ bt s (a + 1)) (h4 : bt s (a + 1) ≤ 191)
    (h5 : bt s a = 224 → 160 ≤ bt s (a + 1)) (h6 : bt s a = 237 → bt s (a + 1) ≤ 159) (h7 : 128 ≤ bt s (a + 2)) (h8 : bt s (a + 2) ≤ 191) : Ch s a = 3 := by
  have e : inn s (a + 1) (if inn s a 224 224 then 160 else 128) (if inn s a 237 237 then 159 else 191) = true :=
    inn_yes (by omega) (by rw [ite_lo, inn_iff]; omega) (by rw [ite_hi, inn_iff]; omega)
  unfold Ch; rw [inn_no (a := a) (lo := 0) (by omega), inn_no (a := a) (lo := 194) (by omega), inn_yes (a := a) (lo := 224) (hi := 239) (by omega) h1 h2, e, inn_yes (a := a + 2) h h7 h8]; rfl
theorem Ch_four {s : ByteArray} {a : Nat} (h : a + 3 < s.size) (h1 : 240 ≤ bt s a) (h2 : bt s a ≤ 244) (h3 : 128 ≤ bt s (a + 1)) (h4 : bt s (a + 1) ≤ 191)
    (h5 : bt s a = 240 → 144 ≤ bt s (a + 1)) (h6 : bt s a = 244 → bt s (a + 1) ≤ 143) (h7 : 128 ≤ bt s (a + 2)) (h8 : bt s (a + 2) ≤ 191) (h9 : 128 ≤ bt s (a + 3)) (h10 : bt s (a + 3) ≤ 191) : Ch s a = 4 := by
  have e : inn s (a + 1) (if inn s a 240 240 then 144 else 128) (if inn s a 244 244 then 143 else 191) = true :=
    inn_yes (by omega) (by rw [ite_lo, inn_iff]; omega) (by rw [ite_hi, inn_iff]; omega)
  unfold Ch; rw [inn_no (a := a) (lo := 0) (by omega), inn_no (a := a) (lo := 194) (by omega), inn_no (a := a) (lo := 224) (hi := 239) (by omega), inn_yes (a := a) (lo := 240) (hi := 244) (by omega) h1 h2, e, inn_yes (a := a + 2) (by omega) h7 h8, inn_yes (a := a + 3) h h9 h10]; rfl
theorem Ch_zero {s : ByteArray} {a : Nat} (h0 : s.size ≤ a ∨ 128 ≤ bt s a) (h1 : ¬ (194 ≤ bt s a ∧ bt s a ≤ 223 ∧ a + 1 < s.size ∧ 128 ≤ bt s (a + 1) ∧ bt s (a + 1) ≤ 191))
    (h2 : ¬ (224 ≤ bt s a ∧ bt s a ≤ 239 ∧ a + 1 < s.size ∧ 128 ≤ bt s (a + 1) ∧ bt s (a + 1) ≤ 191 ∧ (bt s a = 224 → 160 ≤ bt s (a + 1)) ∧ (bt s a = 237 → bt s (a + 1) ≤ 159) ∧ a + 2 < s.size ∧ 128 ≤ bt s (a + 2) ∧ bt s (a + 2) ≤ 191))
    (h3 : ¬ (240 ≤ bt s a ∧ bt s a ≤ 244 ∧ a + 1 < s.size ∧ 128 ≤ bt s (a + 1) ∧ bt s (a + 1) ≤ 191 ∧ (bt s a = 240 → 144 ≤ bt s (a + 1)) ∧ (bt s a = 244 → bt s (a + 1) ≤ 143) ∧ a + 2 < s.size ∧ 128 ≤ bt s (a + 2) ∧ bt s (a + 2) ≤ 191 ∧ a + 3 < s.size ∧ 128 ≤ bt s (a + 3) ∧ bt s (a + 3) ≤ 191)) : Ch s a = 0 := by
  unfold Ch
  rw [inn_no (a := a) (lo := 0) (by omega)]
  have e2 : (inn s a 194 223 && inn s (a + 1) 128 191) = false := by
    rw [Bool.and_eq_false_iff, inn_not, inn_not]; omega
  have e3 : (inn s a 224 239 && inn s (a + 1) (if inn s a 224 224 then 160 else 128) (if inn s a 237 237 then 159 else 191) && inn s (a + 2) 128 191) = false := by
    rw [← Bool.not_eq_true]; simp only [Bool.and_eq_true, inn_iff]; omega
  have e4 : (inn s a 240 244 && inn s (a + 1) (if inn s a 240 240 then 144 else 128) (if inn s a 244 244 then 143 else 191) && inn s (a + 2) 128 191 && inn s (a + 3) 128 191) = false := by
    rw [← Bool.not_eq_true]; simp only [Bool.and_eq_true, inn_iff]; omega
  rw [e2, e3, e4]; rfl

/-- THE FOUR WORDS ON ONE STEP: the decoder's width is the character's, or one where none begins; a nought is a nought; U+FFFD is told from no character by its bytes. -/
theorem step_facts (s : ByteArray) (a : Nat) (h : a < s.size) :
    (Utf8.decode s a).2 = max 1 (Ch s a) ∧ ((Utf8.decode s a).1 = 0 ↔ bt s a = 0) ∧
    (Ch s a = 0 ↔ ((Utf8.decode s a).1 = 65533 ∧ spelt s a = false)) := by
  have g0 := gb_bt s a; have g1 := gb_bt s (a + 1); have g2 := gb_bt s (a + 2); have g3 := gb_bt s (a + 3)
  have k0 := gb_lt s a; have k1 := gb_lt s (a + 1); have k2 := gb_lt s (a + 2); have k3 := gb_lt s (a + 3)
  have H := dec_cases (gb s a) (gb s (a + 1)) (gb s (a + 2)) (gb s (a + 3)) (decide (a + 1 < s.size)) (decide (a + 2 < s.size)) (decide (a + 3 < s.size)) k0 k1 k2 k3
  rw [decode_dec]
  have hs : spelt s a = true ↔ (bt s a = 239 ∧ bt s (a + 1) = 191 ∧ bt s (a + 2) = 189 ∧ a + 2 < s.size) := by
    unfold spelt; rw [Bool.and_eq_true, Bool.and_eq_true, inn_iff, inn_iff, inn_iff]; omega
  have hn : spelt s a = false ↔ ¬ (bt s a = 239 ∧ bt s (a + 1) = 191 ∧ bt s (a + 2) = 189 ∧ a + 2 < s.size) := by
    rw [← hs]; simp
  rw [hn]
  generalize dec (gb s a) (gb s (a + 1)) (gb s (a + 2)) (gb s (a + 3)) (decide (a + 1 < s.size)) (decide (a + 2 < s.size)) (decide (a + 3 < s.size)) = D at *
  simp only [decide_eq_true_eq] at H
  rcases H with ⟨p, rfl⟩ | ⟨p1, p2, p3, p4, p5, rfl⟩ | ⟨p1, p2, p3, p4, p5, p6, p7, p8, p9, p10, rfl⟩ | ⟨p1, p2, p3, p4, p5, p6, p7, p8, p9, p10, p11, p12, p13, rfl⟩ | ⟨p0, p1, p2, p3, rfl⟩
  · rw [Ch_one h (by omega)]; simp only []; omega
  · rw [Ch_two p3 (by omega) (by omega) (by omega) (by omega)]; simp only []; omega
  · rw [Ch_three p8 (by omega) (by omega) (by omega) (by omega) (by omega) (by omega) (by omega) (by omega)]; simp only []; omega
  · rw [Ch_four p11 (by omega) (by omega) (by omega) (by omega) (by omega) (by omega) (by omega) (by omega) (by omega) (by omega)]; simp only []; omega
  · rw [Ch_zero (by omega) (by omega) (by omega) (by omega)]; refine ⟨rfl, ⟨fun q => ?_, fun q => ?_⟩, ⟨fun _ => ⟨rfl, ?_⟩, fun _ => rfl⟩⟩
    · exact absurd q (by decide)
    · omega
    · omega

/-- The place of the first piece that is no character, or is 00, from a place on; the text's length, if there is none. -/
def Bd (s : ByteArray) : Nat → Nat → Nat
  | 0, _ => s.size
  | n + 1, p => if p < s.size then (if Ch s p = 0 ∨ bt s p = 0 then p else Bd s n (p + Ch s p)) else s.size
def bad (s : ByteArray) : Nat := Bd s s.size 0
def good (s : ByteArray) : Bool := decide (bad s = s.size)

theorem Bd_end (s : ByteArray) (n p : Nat) (h : s.size ≤ p) : Bd s n p = s.size := by
  cases n with
  | zero => rfl
  | succ n => rw [Bd, if_neg (by omega)]
theorem Bd_here {s : ByteArray} {n p : Nat} (h : p < s.size) (hb : s.size ≤ p + n) (h0 : Ch s p = 0 ∨ bt s p = 0) : Bd s n p = p := by
  cases n with
  | zero => omega
  | succ n => rw [Bd, if_pos h, if_pos h0]
theorem Bd_next {s : ByteArray} {n p : Nat} (h : p < s.size) (h0 : Ch s p ≠ 0) (h1 : bt s p ≠ 0) : Bd s (n + 1) p = Bd s n (p + Ch s p) := by
  rw [Bd, if_pos h, if_neg (by omega)]
theorem Bd_le (s : ByteArray) : ∀ n p, Bd s n p ≤ s.size
  | 0, _ => Nat.le_refl _
  | n + 1, p => by
    have := Bd_le s n (p + Ch s p)
    unfold Bd
    repeat' split
    all_goals omega
theorem bad_le (s : ByteArray) : bad s ≤ s.size := Bd_le s _ _

/-- The end of the longest beginning of whole pieces with at most so many bytes. -/
def Ct (s : ByteArray) (most : Int) : Nat → Nat → Nat
  | 0, p => p
  | n + 1, p => if p < s.size then (if most < (p : Int) + max 1 (Ch s p) then p else Ct s most n (p + max 1 (Ch s p))) else p
def cut (s : ByteArray) (most : Int) : Nat := Ct s most s.size 0
theorem Ct_end {s : ByteArray} {most : Int} {n p : Nat} (h : s.size ≤ p) : Ct s most n p = p := by
  cases n with
  | zero => rfl
  | succ n => rw [Ct, if_neg (by omega)]
theorem Ct_stop {s : ByteArray} {most : Int} {n p : Nat} (h0 : most < (p : Int) + max 1 (Ch s p)) : Ct s most n p = p := by
  cases n with
  | zero => rfl
  | succ n =>
    rw [Ct, if_pos h0]
    split <;> rfl
theorem Ct_next {s : ByteArray} {most : Int} {n p : Nat} (h : p < s.size) (h0 : (p : Int) + max 1 (Ch s p) ≤ most) : Ct s most (n + 1) p = Ct s most n (p + max 1 (Ch s p)) := by
  rw [Ct, if_pos h, if_neg (by omega)]
theorem piece_le (s : ByteArray) (p : Nat) (h : p < s.size) : p + max 1 (Ch s p) ≤ s.size := by
  have := Ch_le s p
  omega
theorem Ct_le (s : ByteArray) (most : Int) : ∀ n p, p ≤ s.size → Ct s most n p ≤ s.size
  | 0, _, h => h
  | n + 1, p, h => by
    unfold Ct
    split
    · have := piece_le s p (by omega)
      have := Ct_le s most n (p + max 1 (Ch s p)) this
      split <;> omega
    · omega
theorem cut_le (s : ByteArray) (most : Int) : cut s most ≤ s.size := Ct_le s most _ _ (Nat.zero_le _)
/-- All of it fits: all of it. -/
theorem Ct_all (s : ByteArray) (most : Int) (hm : (s.size : Int) ≤ most) : ∀ n p, p ≤ s.size → s.size ≤ p + n → Ct s most n p = s.size
  | 0, p, h, hb => by show p = s.size; omega
  | n + 1, p, h, hb => by
    unfold Ct
    split
    · rename_i hp
      have := piece_le s p hp
      rw [if_neg (by omega)]
      exact Ct_all s most hm n _ this (by omega)
    · omega
theorem cut_all (s : ByteArray) (most : Int) (hm : (s.size : Int) ≤ most) : cut s most = s.size := Ct_all s most hm _ _ (Nat.zero_le _) (by omega)
end Go.Proofs.YtahjmpfjidijaaaGreatDoor.Utf
end
section
namespace Go.Proofs.YtahjmpfjidijaaaGreatDoor.Txt
set_option linter.unusedVariables false
open Go.RowKit Go.PlainAid Go.Proofs.YtahjmpfjidijaaaGreatDoor.Utf

theorem within_any (s : ByteArray) (x lo hi : Int) (w : World) (a : Nat) (hx : x = a) (hs : s.size ≤ 140737488355328) :
    Calls Tryz.prog 213 #[.string s, .int .i64 x, .int .u8 lo, .int .u8 hi] w fun e w' => e = .returned (.bool (inn s a lo hi)) ∧ w = w' := by
  subst hx
  have hb := get_bt s
  by_cases h : a < s.size
  · by_cases h1 : lo ≤ bt s a
    · by_cases h2 : bt s a ≤ hi
      · have hf := inn_yes h h1 h2
        rw [hf]
        clear hf
        go_enter Tryz.func213, Tryz.ntmps213
        go_wp2
        go_ret
        exact ⟨rfl, rfl⟩
      · have hf : inn s a lo hi = false := inn_no (by omega)
        rw [hf]
        clear hf
        go_enter Tryz.func213, Tryz.ntmps213
        go_wp2
        go_ret
        exact ⟨rfl, rfl⟩
    · have hf : inn s a lo hi = false := inn_no (by omega)
      rw [hf]
      clear hf
      go_enter Tryz.func213, Tryz.ntmps213
      go_wp2
      go_ret
      exact ⟨rfl, rfl⟩
  · have hf : inn s a lo hi = false := inn_no (by omega)
    rw [hf]
    clear hf
    go_enter Tryz.func213, Tryz.ntmps213
    go_wp2
    go_ret
    exact ⟨rfl, rfl⟩

set_option maxHeartbeats 400000 in
theorem char_0 (s : ByteArray) (a : Nat) (w : World) (hs : s.size ≤ 140737488355328) (ha : a < s.size) (hl : 0 ≤ bt s a) (hh : bt s a ≤ 127) :
    Calls Tryz.prog 203 #[.string s, .int .i64 a] w fun e w' => e = .returned (.int .i64 1) ∧ w = w' := by
  have f0 : inn s a 0 127 = true := inn_yes ha (by omega) (by omega)
  have f1 : inn s a 194 223 = false := inn_no (by omega)
  have f2 : inn s a 224 224 = false := inn_no (by omega)
  have f3 : inn s a 237 237 = false := inn_no (by omega)
  have f4 : inn s a 224 239 = false := inn_no (by omega)
  have f5 : inn s a 240 240 = false := inn_no (by omega)
  have f6 : inn s a 244 244 = false := inn_no (by omega)
  have f7 : inn s a 240 244 = false := inn_no (by omega)
  clear hl hh
  go_enter Tryz.func203, Tryz.ntmps203
  go_wp2_with (go_at_call 213; first | (refine (within_any s _ _ _ _ a (by omega) hs).mono ?_; rintro e w' ⟨rfl, rfl⟩) | (refine (within_any s _ _ _ _ (a + 1) (by omega) hs).mono ?_; rintro e w' ⟨rfl, rfl⟩) | (refine (within_any s _ _ _ _ (a + 2) (by omega) hs).mono ?_; rintro e w' ⟨rfl, rfl⟩) | (refine (within_any s _ _ _ _ (a + 3) (by omega) hs).mono ?_; rintro e w' ⟨rfl, rfl⟩))
  go_ret
  exact ⟨rfl, rfl⟩
set_option maxHeartbeats 400000 in
theorem char_128 (s : ByteArray) (a : Nat) (w : World) (hs : s.size ≤ 140737488355328) (ha : a < s.size) (hl : 128 ≤ bt s a) (hh : bt s a ≤ 193) :
    Calls Tryz.prog 203 #[.string s, .int .i64 a] w fun e w' => e = .returned (.int .i64 0) ∧ w = w' := by
  have f0 : inn s a 0 127 = false := inn_no (by omega)
  have f1 : inn s a 194 223 = false := inn_no (by omega)
  have f2 : inn s a 224 224 = false := inn_no (by omega)
  have f3 : inn s a 237 237 = false := inn_no (by omega)
  have f4 : inn s a 224 239 = false := inn_no (by omega)
  have f5 : inn s a 240 240 = false := inn_no (by omega)
  have f6 : inn s a 244 244 = false := inn_no (by omega)
  have f7 : inn s a 240 244 = false := inn_no (by omega)
  clear hl hh
  go_enter Tryz.func203, Tryz.ntmps203
  go_wp2_with (go_at_call 213; first | (refine (within_any s _ _ _ _ a (by omega) hs).mono ?_; rintro e w' ⟨rfl, rfl⟩) | (refine (within_any s _ _ _ _ (a + 1) (by omega) hs).mono ?_; rintro e w' ⟨rfl, rfl⟩) | (refine (within_any s _ _ _ _ (a + 2) (by omega) hs).mono ?_; rintro e w' ⟨rfl, rfl⟩) | (refine (within_any s _ _ _ _ (a + 3) (by omega) hs).mono ?_; rintro e w' ⟨rfl, rfl⟩))
  go_ret
  exact ⟨rfl, rfl⟩
set_option maxHeartbeats 400000 in
theorem char_194_y (s : ByteArray) (a : Nat) (w : World) (hs : s.size ≤ 140737488355328) (ha : a < s.size) (hl : 194 ≤ bt s a) (hh : bt s a ≤ 223) (g1 : inn s (a + 1) 128 191 = true) :
    Calls Tryz.prog 203 #[.string s, .int .i64 a] w fun e w' => e = .returned (.int .i64 2) ∧ w = w' := by
  have f0 : inn s a 0 127 = false := inn_no (by omega)
  have f1 : inn s a 194 223 = true := inn_yes ha (by omega) (by omega)
  have f2 : inn s a 224 224 = false := inn_no (by omega)
  have f3 : inn s a 237 237 = false := inn_no (by omega)
  have f4 : inn s a 224 239 = false := inn_no (by omega)
  have f5 : inn s a 240 240 = false := inn_no (by omega)
  have f6 : inn s a 244 244 = false := inn_no (by omega)
  have f7 : inn s a 240 244 = false := inn_no (by omega)
  clear hl hh
  go_enter Tryz.func203, Tryz.ntmps203
  go_wp2_with (go_at_call 213; first | (refine (within_any s _ _ _ _ a (by omega) hs).mono ?_; rintro e w' ⟨rfl, rfl⟩) | (refine (within_any s _ _ _ _ (a + 1) (by omega) hs).mono ?_; rintro e w' ⟨rfl, rfl⟩) | (refine (within_any s _ _ _ _ (a + 2) (by omega) hs).mono ?_; rintro e w' ⟨rfl, rfl⟩) | (refine (within_any s _ _ _ _ (a + 3) (by omega) hs).mono ?_; rintro e w' ⟨rfl, rfl⟩))
  go_ret
  exact ⟨rfl, rfl⟩
set_option maxHeartbeats 400000 in
theorem char_194_n (s : ByteArray) (a : Nat) (w : World) (hs : s.size ≤ 140737488355328) (ha : a < s.size) (hl : 194 ≤ bt s a) (hh : bt s a ≤ 223) (g1 : inn s (a + 1) 128 191 = false) :
    Calls Tryz.prog 203 #[.string s, .int .i64 a] w fun e w' => e = .returned (.int .i64 0) ∧ w = w' := by
  have f0 : inn s a 0 127 = false := inn_no (by omega)
  have f1 : inn s a 194 223 = true := inn_yes ha (by omega) (by omega)
  have f2 : inn s a 224 224 = false := inn_no (by omega)
  have f3 : inn s a 237 237 = false := inn_no (by omega)
  have f4 : inn s a 224 239 = false := inn_no (by omega)
  have f5 : inn s a 240 240 = false := inn_no (by omega)
  have f6 : inn s a 244 244 = false := inn_no (by omega)
  have f7 : inn s a 240 244 = false := inn_no (by omega)
  clear hl hh
  go_enter Tryz.func203, Tryz.ntmps203
  go_wp2_with (go_at_call 213; first | (refine (within_any s _ _ _ _ a (by omega) hs).mono ?_; rintro e w' ⟨rfl, rfl⟩) | (refine (within_any s _ _ _ _ (a + 1) (by omega) hs).mono ?_; rintro e w' ⟨rfl, rfl⟩) | (refine (within_any s _ _ _ _ (a + 2) (by omega) hs).mono ?_; rintro e w' ⟨rfl, rfl⟩) | (refine (within_any s _ _ _ _ (a + 3) (by omega) hs).mono ?_; rintro e w' ⟨rfl, rfl⟩))
  go_ret
  exact ⟨rfl, rfl⟩
set_option maxHeartbeats 400000 in
theorem char_224_y (s : ByteArray) (a : Nat) (w : World) (hs : s.size ≤ 140737488355328) (ha : a < s.size) (hl : 224 ≤ bt s a) (hh : bt s a ≤ 224) (g1 : inn s (a + 1) 160 191 = true)  (g2 : inn s (a + 2) 128 191 = true) :
    Calls Tryz.prog 203 #[.string s, .int .i64 a] w fun e w' => e = .returned (.int .i64 3) ∧ w = w' := by
  have f0 : inn s a 0 127 = false := inn_no (by omega)
  have f1 : inn s a 194 223 = false := inn_no (by omega)
  have f2 : inn s a 224 224 = true := inn_yes ha (by omega) (by omega)
  have f3 : inn s a 237 237 = false := inn_no (by omega)
  have f4 : inn s a 224 239 = true := inn_yes ha (by omega) (by omega)
  have f5 : inn s a 240 240 = false := inn_no (by omega)
  have f6 : inn s a 244 244 = false := inn_no (by omega)
  have f7 : inn s a 240 244 = false := inn_no (by omega)
  clear hl hh
  go_enter Tryz.func203, Tryz.ntmps203
  go_wp2_with (go_at_call 213; first | (refine (within_any s _ _ _ _ a (by omega) hs).mono ?_; rintro e w' ⟨rfl, rfl⟩) | (refine (within_any s _ _ _ _ (a + 1) (by omega) hs).mono ?_; rintro e w' ⟨rfl, rfl⟩) | (refine (within_any s _ _ _ _ (a + 2) (by omega) hs).mono ?_; rintro e w' ⟨rfl, rfl⟩) | (refine (within_any s _ _ _ _ (a + 3) (by omega) hs).mono ?_; rintro e w' ⟨rfl, rfl⟩))
  go_ret
  exact ⟨rfl, rfl⟩
set_option maxHeartbeats 400000 in
theorem char_224_n1 (s : ByteArray) (a : Nat) (w : World) (hs : s.size ≤ 140737488355328) (ha : a < s.size) (hl : 224 ≤ bt s a) (hh : bt s a ≤ 224) (g1 : inn s (a + 1) 160 191 = false) :
    Calls Tryz.prog 203 #[.string s, .int .i64 a] w fun e w' => e = .returned (.int .i64 0) ∧ w = w' := by
  have f0 : inn s a 0 127 = false := inn_no (by omega)
  have f1 : inn s a 194 223 = false := inn_no (by omega)
  have f2 : inn s a 224 224 = true := inn_yes ha (by omega) (by omega)
  have f3 : inn s a 237 237 = false := inn_no (by omega)
  have f4 : inn s a 224 239 = true := inn_yes ha (by omega) (by omega)
  have f5 : inn s a 240 240 = false := inn_no (by omega)
  have f6 : inn s a 244 244 = false := inn_no (by omega)
  have f7 : inn s a 240 244 = false := inn_no (by omega)
  clear hl hh
  go_enter Tryz.func203, Tryz.ntmps203
  go_wp2_with (go_at_call 213; first | (refine (within_any s _ _ _ _ a (by omega) hs).mono ?_; rintro e w' ⟨rfl, rfl⟩) | (refine (within_any s _ _ _ _ (a + 1) (by omega) hs).mono ?_; rintro e w' ⟨rfl, rfl⟩) | (refine (within_any s _ _ _ _ (a + 2) (by omega) hs).mono ?_; rintro e w' ⟨rfl, rfl⟩) | (refine (within_any s _ _ _ _ (a + 3) (by omega) hs).mono ?_; rintro e w' ⟨rfl, rfl⟩))
  go_ret
  exact ⟨rfl, rfl⟩
set_option maxHeartbeats 400000 in
theorem char_224_n2 (s : ByteArray) (a : Nat) (w : World) (hs : s.size ≤ 140737488355328) (ha : a < s.size) (hl : 224 ≤ bt s a) (hh : bt s a ≤ 224) (g1 : inn s (a + 1) 160 191 = true)  (g2 : inn s (a + 2) 128 191 = false) :
    Calls Tryz.prog 203 #[.string s, .int .i64 a] w fun e w' => e = .returned (.int .i64 0) ∧ w = w' := by
  have f0 : inn s a 0 127 = false := inn_no (by omega)
  have f1 : inn s a 194 223 = false := inn_no (by omega)
  have f2 : inn s a 224 224 = true := inn_yes ha (by omega) (by omega)
  have f3 : inn s a 237 237 = false := inn_no (by omega)
  have f4 : inn s a 224 239 = true := inn_yes ha (by omega) (by omega)
  have f5 : inn s a 240 240 = false := inn_no (by omega)
  have f6 : inn s a 244 244 = false := inn_no (by omega)
  have f7 : inn s a 240 244 = false := inn_no (by omega)
  clear hl hh
  go_enter Tryz.func203, Tryz.ntmps203
  go_wp2_with (go_at_call 213; first | (refine (within_any s _ _ _ _ a (by omega) hs).mono ?_; rintro e w' ⟨rfl, rfl⟩) | (refine (within_any s _ _ _ _ (a + 1) (by omega) hs).mono ?_; rintro e w' ⟨rfl, rfl⟩) | (refine (within_any s _ _ _ _ (a + 2) (by omega) hs).mono ?_; rintro e w' ⟨rfl, rfl⟩) | (refine (within_any s _ _ _ _ (a + 3) (by omega) hs).mono ?_; rintro e w' ⟨rfl, rfl⟩))
  go_ret
  exact ⟨rfl, rfl⟩
set_option maxHeartbeats 400000 in
theorem char_225_y (s : ByteArray) (a : Nat) (w : World) (hs : s.size ≤ 140737488355328) (ha : a < s.size) (hl : 225 ≤ bt s a) (hh : bt s a ≤ 236) (g1 : inn s (a + 1) 128 191 = true)  (g2 : inn s (a + 2) 128 191 = true) :
    Calls Tryz.prog 203 #[.string s, .int .i64 a] w fun e w' => e = .returned (.int .i64 3) ∧ w = w' := by
  have f0 : inn s a 0 127 = false := inn_no (by omega)
  have f1 : inn s a 194 223 = false := inn_no (by omega)
  have f2 : inn s a 224 224 = false := inn_no (by omega)
  have f3 : inn s a 237 237 = false := inn_no (by omega)
  have f4 : inn s a 224 239 = true := inn_yes ha (by omega) (by omega)
  have f5 : inn s a 240 240 = false := inn_no (by omega)
  have f6 : inn s a 244 244 = false := inn_no (by omega)
  have f7 : inn s a 240 244 = false := inn_no (by omega)
  clear hl hh
  go_enter Tryz.func203, Tryz.ntmps203
  go_wp2_with (go_at_call 213; first | (refine (within_any s _ _ _ _ a (by omega) hs).mono ?_; rintro e w' ⟨rfl, rfl⟩) | (refine (within_any s _ _ _ _ (a + 1) (by omega) hs).mono ?_; rintro e w' ⟨rfl, rfl⟩) | (refine (within_any s _ _ _ _ (a + 2) (by omega) hs).mono ?_; rintro e w' ⟨rfl, rfl⟩) | (refine (within_any s _ _ _ _ (a + 3) (by omega) hs).mono ?_; rintro e w' ⟨rfl, rfl⟩))
  go_ret
  exact ⟨rfl, rfl⟩
set_option maxHeartbeats 400000 in
theorem char_225_n1 (s : ByteArray) (a : Nat) (w : World) (hs : s.size ≤ 140737488355328) (ha : a < s.size) (hl : 225 ≤ bt s a) (hh : bt s a ≤ 236) (g1 : inn s (a + 1) 128 191 = false) :
    Calls Tryz.prog 203 #[.string s, .int .i64 a] w fun e w' => e = .returned (.int .i64 0) ∧ w = w' := by
  have f0 : inn s a 0 127 = false := inn_no (by omega)
  have f1 : inn s a 194 223 = false := inn_no (by omega)
  have f2 : inn s a 224 224 = false := inn_no (by omega)
  have f3 : inn s a 237 237 = false := inn_no (by omega)
  have f4 : inn s a 224 239 = true := inn_yes ha (by omega) (by omega)
  have f5 : inn s a 240 240 = false := inn_no (by omega)
  have f6 : inn s a 244 244 = false := inn_no (by omega)
  have f7 : inn s a 240 244 = false := inn_no (by omega)
  clear hl hh
  go_enter Tryz.func203, Tryz.ntmps203
  go_wp2_with (go_at_call 213; first | (refine (within_any s _ _ _ _ a (by omega) hs).mono ?_; rintro e w' ⟨rfl, rfl⟩) | (refine (within_any s _ _ _ _ (a + 1) (by omega) hs).mono ?_; rintro e w' ⟨rfl, rfl⟩) | (refine (within_any s _ _ _ _ (a + 2) (by omega) hs).mono ?_; rintro e w' ⟨rfl, rfl⟩) | (refine (within_any s _ _ _ _ (a + 3) (by omega) hs).mono ?_; rintro e w' ⟨rfl, rfl⟩))
  go_ret
  exact ⟨rfl, rfl⟩
set_option maxHeartbeats 400000 in
theorem char_225_n2 (s : ByteArray) (a : Nat) (w : World) (hs : s.size ≤ 140737488355328) (ha : a < s.size) (hl : 225 ≤ bt s a) (hh : bt s a ≤ 236) (g1 : inn s (a + 1) 128 191 = true)  (g2 : inn s (a + 2) 128 191 = false) :
    Calls Tryz.prog 203 #[.string s, .int .i64 a] w fun e w' => e = .returned (.int .i64 0) ∧ w = w' := by
  have f0 : inn s a 0 127 = false := inn_no (by omega)
  have f1 : inn s a 194 223 = false := inn_no (by omega)
  have f2 : inn s a 224 224 = false := inn_no (by omega)
  have f3 : inn s a 237 237 = false := inn_no (by omega)
  have f4 : inn s a 224 239 = true := inn_yes ha (by omega) (by omega)
  have f5 : inn s a 240 240 = false := inn_no (by omega)
  have f6 : inn s a 244 244 = false := inn_no (by omega)
  have f7 : inn s a 240 244 = false := inn_no (by omega)
  clear hl hh
  go_enter Tryz.func203, Tryz.ntmps203
  go_wp2_with (go_at_call 213; first | (refine (within_any s _ _ _ _ a (by omega) hs).mono ?_; rintro e w' ⟨rfl, rfl⟩) | (refine (within_any s _ _ _ _ (a + 1) (by omega) hs).mono ?_; rintro e w' ⟨rfl, rfl⟩) | (refine (within_any s _ _ _ _ (a + 2) (by omega) hs).mono ?_; rintro e w' ⟨rfl, rfl⟩) | (refine (within_any s _ _ _ _ (a + 3) (by omega) hs).mono ?_; rintro e w' ⟨rfl, rfl⟩))
  go_ret
  exact ⟨rfl, rfl⟩
set_option maxHeartbeats 400000 in
theorem char_237_y (s : ByteArray) (a : Nat) (w : World) (hs : s.size ≤ 140737488355328) (ha : a < s.size) (hl : 237 ≤ bt s a) (hh : bt s a ≤ 237) (g1 : inn s (a + 1) 128 159 = true)  (g2 : inn s (a + 2) 128 191 = true) :
    Calls Tryz.prog 203 #[.string s, .int .i64 a] w fun e w' => e = .returned (.int .i64 3) ∧ w = w' := by
  have f0 : inn s a 0 127 = false := inn_no (by omega)
  have f1 : inn s a 194 223 = false := inn_no (by omega)
  have f2 : inn s a 224 224 = false := inn_no (by omega)
  have f3 : inn s a 237 237 = true := inn_yes ha (by omega) (by omega)
  have f4 : inn s a 224 239 = true := inn_yes ha (by omega) (by omega)
  have f5 : inn s a 240 240 = false := inn_no (by omega)
  have f6 : inn s a 244 244 = false := inn_no (by omega)
  have f7 : inn s a 240 244 = false := inn_no (by omega)
  clear hl hh
  go_enter Tryz.func203, Tryz.ntmps203
  go_wp2_with (go_at_call 213; first | (refine (within_any s _ _ _ _ a (by omega) hs).mono ?_; rintro e w' ⟨rfl, rfl⟩) | (refine (within_any s _ _ _ _ (a + 1) (by omega) hs).mono ?_; rintro e w' ⟨rfl, rfl⟩) | (refine (within_any s _ _ _ _ (a + 2) (by omega) hs).mono ?_; rintro e w' ⟨rfl, rfl⟩) | (refine (within_any s _ _ _ _ (a + 3) (by omega) hs).mono ?_; rintro e w' ⟨rfl, rfl⟩))
  go_ret
  exact ⟨rfl, rfl⟩
set_option maxHeartbeats 400000 in
theorem char_237_n1 (s : ByteArray) (a : Nat) (w : World) (hs : s.size ≤ 140737488355328) (ha : a < s.size) (hl : 237 ≤ bt s a) (hh : bt s a ≤ 237) (g1 : inn s (a + 1) 128 159 = false) :
    Calls Tryz.prog 203 #[.string s, .int .i64 a] w fun e w' => e = .returned (.int .i64 0) ∧ w = w' := by
  have f0 : inn s a 0 127 = false := inn_no (by omega)
  have f1 : inn s a 194 223 = false := inn_no (by omega)
  have f2 : inn s a 224 224 = false := inn_no (by omega)
  have f3 : inn s a 237 237 = true := inn_yes ha (by omega) (by omega)
  have f4 : inn s a 224 239 = true := inn_yes ha (by omega) (by omega)
  have f5 : inn s a 240 240 = false := inn_no (by omega)
  have f6 : inn s a 244 244 = false := inn_no (by omega)
  have f7 : inn s a 240 244 = false := inn_no (by omega)
  clear hl hh
  go_enter Tryz.func203, Tryz.ntmps203
  go_wp2_with (go_at_call 213; first | (refine (within_any s _ _ _ _ a (by omega) hs).mono ?_; rintro e w' ⟨rfl, rfl⟩) | (refine (within_any s _ _ _ _ (a + 1) (by omega) hs).mono ?_; rintro e w' ⟨rfl, rfl⟩) | (refine (within_any s _ _ _ _ (a + 2) (by omega) hs).mono ?_; rintro e w' ⟨rfl, rfl⟩) | (refine (within_any s _ _ _ _ (a + 3) (by omega) hs).mono ?_; rintro e w' ⟨rfl, rfl⟩))
  go_ret
  exact ⟨rfl, rfl⟩
set_option maxHeartbeats 400000 in
theorem char_237_n2 (s : ByteArray) (a : Nat) (w : World) (hs : s.size ≤ 140737488355328) (ha : a < s.size) (hl : 237 ≤ bt s a) (hh : bt s a ≤ 237) (g1 : inn s (a + 1) 128 159 = true)  (g2 : inn s (a + 2) 128 191 = false) :
    Calls Tryz.prog 203 #[.string s, .int .i64 a] w fun e w' => e = .returned (.int .i64 0) ∧ w = w' := by
  have f0 : inn s a 0 127 = false := inn_no (by omega)
  have f1 : inn s a 194 223 = false := inn_no (by omega)
  have f2 : inn s a 224 224 = false := inn_no (by omega)
  have f3 : inn s a 237 237 = true := inn_yes ha (by omega) (by omega)
  have f4 : inn s a 224 239 = true := inn_yes ha (by omega) (by omega)
  have f5 : inn s a 240 240 = false := inn_no (by omega)
  have f6 : inn s a 244 244 = false := inn_no (by omega)
  have f7 : inn s a 240 244 = false := inn_no (by omega)
  clear hl hh
  go_enter Tryz.func203, Tryz.ntmps203
  go_wp2_with (go_at_call 213; first | (refine (within_any s _ _ _ _ a (by omega) hs).mono ?_; rintro e w' ⟨rfl, rfl⟩) | (refine (within_any s _ _ _ _ (a + 1) (by omega) hs).mono ?_; rintro e w' ⟨rfl, rfl⟩) | (refine (within_any s _ _ _ _ (a + 2) (by omega) hs).mono ?_; rintro e w' ⟨rfl, rfl⟩) | (refine (within_any s _ _ _ _ (a + 3) (by omega) hs).mono ?_; rintro e w' ⟨rfl, rfl⟩))
  go_ret
  exact ⟨rfl, rfl⟩
set_option maxHeartbeats 400000 in
theorem char_238_y (s : ByteArray) (a : Nat) (w : World) (hs : s.size ≤ 140737488355328) (ha : a < s.size) (hl : 238 ≤ bt s a) (hh : bt s a ≤ 239) (g1 : inn s (a + 1) 128 191 = true)  (g2 : inn s (a + 2) 128 191 = true) :
    Calls Tryz.prog 203 #[.string s, .int .i64 a] w fun e w' => e = .returned (.int .i64 3) ∧ w = w' := by
  have f0 : inn s a 0 127 = false := inn_no (by omega)
  have f1 : inn s a 194 223 = false := inn_no (by omega)
  have f2 : inn s a 224 224 = false := inn_no (by omega)
  have f3 : inn s a 237 237 = false := inn_no (by omega)
  have f4 : inn s a 224 239 = true := inn_yes ha (by omega) (by omega)
  have f5 : inn s a 240 240 = false := inn_no (by omega)
  have f6 : inn s a 244 244 = false := inn_no (by omega)
  have f7 : inn s a 240 244 = false := inn_no (by omega)
  clear hl hh
  go_enter Tryz.func203, Tryz.ntmps203
  go_wp2_with (go_at_call 213; first | (refine (within_any s _ _ _ _ a (by omega) hs).mono ?_; rintro e w' ⟨rfl, rfl⟩) | (refine (within_any s _ _ _ _ (a + 1) (by omega) hs).mono ?_; rintro e w' ⟨rfl, rfl⟩) | (refine (within_any s _ _ _ _ (a + 2) (by omega) hs).mono ?_; rintro e w' ⟨rfl, rfl⟩) | (refine (within_any s _ _ _ _ (a + 3) (by omega) hs).mono ?_; rintro e w' ⟨rfl, rfl⟩))
  go_ret
  exact ⟨rfl, rfl⟩
set_option maxHeartbeats 400000 in
theorem char_238_n1 (s : ByteArray) (a : Nat) (w : World) (hs : s.size ≤ 140737488355328) (ha : a < s.size) (hl : 238 ≤ bt s a) (hh : bt s a ≤ 239) (g1 : inn s (a + 1) 128 191 = false) :
    Calls Tryz.prog 203 #[.string s, .int .i64 a] w fun e w' => e = .returned (.int .i64 0) ∧ w = w' := by
  have f0 : inn s a 0 127 = false := inn_no (by omega)
  have f1 : inn s a 194 223 = false := inn_no (by omega)
  have f2 : inn s a 224 224 = false := inn_no (by omega)
  have f3 : inn s a 237 237 = false := inn_no (by omega)
  have f4 : inn s a 224 239 = true := inn_yes ha (by omega) (by omega)
  have f5 : inn s a 240 240 = false := inn_no (by omega)
  have f6 : inn s a 244 244 = false := inn_no (by omega)
  have f7 : inn s a 240 244 = false := inn_no (by omega)
  clear hl hh
  go_enter Tryz.func203, Tryz.ntmps203
  go_wp2_with (go_at_call 213; first | (refine (within_any s _ _ _ _ a (by omega) hs).mono ?_; rintro e w' ⟨rfl, rfl⟩) | (refine (within_any s _ _ _ _ (a + 1) (by omega) hs).mono ?_; rintro e w' ⟨rfl, rfl⟩) | (refine (within_any s _ _ _ _ (a + 2) (by omega) hs).mono ?_; rintro e w' ⟨rfl, rfl⟩) | (refine (within_any s _ _ _ _ (a + 3) (by omega) hs).mono ?_; rintro e w' ⟨rfl, rfl⟩))
  go_ret
  exact ⟨rfl, rfl⟩
set_option maxHeartbeats 400000 in
theorem char_238_n2 (s : ByteArray) (a : Nat) (w : World) (hs : s.size ≤ 140737488355328) (ha : a < s.size) (hl : 238 ≤ bt s a) (hh : bt s a ≤ 239) (g1 : inn s (a + 1) 128 191 = true)  (g2 : inn s (a + 2) 128 191 = false) :
    Calls Tryz.prog 203 #[.string s, .int .i64 a] w fun e w' => e = .returned (.int .i64 0) ∧ w = w' := by
  have f0 : inn s a 0 127 = false := inn_no (by omega)
  have f1 : inn s a 194 223 = false := inn_no (by omega)
  have f2 : inn s a 224 224 = false := inn_no (by omega)
  have f3 : inn s a 237 237 = false := inn_no (by omega)
  have f4 : inn s a 224 239 = true := inn_yes ha (by omega) (by omega)
  have f5 : inn s a 240 240 = false := inn_no (by omega)
  have f6 : inn s a 244 244 = false := inn_no (by omega)
  have f7 : inn s a 240 244 = false := inn_no (by omega)
  clear hl hh
  go_enter Tryz.func203, Tryz.ntmps203
  go_wp2_with (go_at_call 213; first | (refine (within_any s _ _ _ _ a (by omega) hs).mono ?_; rintro e w' ⟨rfl, rfl⟩) | (refine (within_any s _ _ _ _ (a + 1) (by omega) hs).mono ?_; rintro e w' ⟨rfl, rfl⟩) | (refine (within_any s _ _ _ _ (a + 2) (by omega) hs).mono ?_; rintro e w' ⟨rfl, rfl⟩) | (refine (within_any s _ _ _ _ (a + 3) (by omega) hs).mono ?_; rintro e w' ⟨rfl, rfl⟩))
  go_ret
  exact ⟨rfl, rfl⟩
set_option maxHeartbeats 400000 in
theorem char_240_y (s : ByteArray) (a : Nat) (w : World) (hs : s.size ≤ 140737488355328) (ha : a < s.size) (hl : 240 ≤ bt s a) (hh : bt s a ≤ 240) (g1 : inn s (a + 1) 144 191 = true)  (g2 : inn s (a + 2) 128 191 = true)  (g3 : inn s (a + 3) 128 191 = true) :
    Calls Tryz.prog 203 #[.string s, .int .i64 a] w fun e w' => e = .returned (.int .i64 4) ∧ w = w' := by
  have f0 : inn s a 0 127 = false := inn_no (by omega)
  have f1 : inn s a 194 223 = false := inn_no (by omega)
  have f2 : inn s a 224 224 = false := inn_no (by omega)
  have f3 : inn s a 237 237 = false := inn_no (by omega)
  have f4 : inn s a 224 239 = false := inn_no (by omega)
  have f5 : inn s a 240 240 = true := inn_yes ha (by omega) (by omega)
  have f6 : inn s a 244 244 = false := inn_no (by omega)
  have f7 : inn s a 240 244 = true := inn_yes ha (by omega) (by omega)
  clear hl hh
  go_enter Tryz.func203, Tryz.ntmps203
  go_wp2_with (go_at_call 213; first | (refine (within_any s _ _ _ _ a (by omega) hs).mono ?_; rintro e w' ⟨rfl, rfl⟩) | (refine (within_any s _ _ _ _ (a + 1) (by omega) hs).mono ?_; rintro e w' ⟨rfl, rfl⟩) | (refine (within_any s _ _ _ _ (a + 2) (by omega) hs).mono ?_; rintro e w' ⟨rfl, rfl⟩) | (refine (within_any s _ _ _ _ (a + 3) (by omega) hs).mono ?_; rintro e w' ⟨rfl, rfl⟩))
  go_ret
  exact ⟨rfl, rfl⟩
set_option maxHeartbeats 400000 in
theorem char_240_n1 (s : ByteArray) (a : Nat) (w : World) (hs : s.size ≤ 140737488355328) (ha : a < s.size) (hl : 240 ≤ bt s a) (hh : bt s a ≤ 240) (g1 : inn s (a + 1) 144 191 = false) :
    Calls Tryz.prog 203 #[.string s, .int .i64 a] w fun e w' => e = .returned (.int .i64 0) ∧ w = w' := by
  have f0 : inn s a 0 127 = false := inn_no (by omega)
  have f1 : inn s a 194 223 = false := inn_no (by omega)
  have f2 : inn s a 224 224 = false := inn_no (by omega)
  have f3 : inn s a 237 237 = false := inn_no (by omega)
  have f4 : inn s a 224 239 = false := inn_no (by omega)
  have f5 : inn s a 240 240 = true := inn_yes ha (by omega) (by omega)
  have f6 : inn s a 244 244 = false := inn_no (by omega)
  have f7 : inn s a 240 244 = true := inn_yes ha (by omega) (by omega)
  clear hl hh
  go_enter Tryz.func203, Tryz.ntmps203
  go_wp2_with (go_at_call 213; first | (refine (within_any s _ _ _ _ a (by omega) hs).mono ?_; rintro e w' ⟨rfl, rfl⟩) | (refine (within_any s _ _ _ _ (a + 1) (by omega) hs).mono ?_; rintro e w' ⟨rfl, rfl⟩) | (refine (within_any s _ _ _ _ (a + 2) (by omega) hs).mono ?_; rintro e w' ⟨rfl, rfl⟩) | (refine (within_any s _ _ _ _ (a + 3) (by omega) hs).mono ?_; rintro e w' ⟨rfl, rfl⟩))
  go_ret
  exact ⟨rfl, rfl⟩
set_option maxHeartbeats 400000 in
theorem char_240_n2 (s : ByteArray) (a : Nat) (w : World) (hs : s.size ≤ 140737488355328) (ha : a < s.size) (hl : 240 ≤ bt s a) (hh : bt s a ≤ 240) (g1 : inn s (a + 1) 144 191 = true)  (g2 : inn s (a + 2) 128 191 = false) :
    Calls Tryz.prog 203 #[.string s, .int .i64 a] w fun e w' => e = .returned (.int .i64 0) ∧ w = w' := by
  have f0 : inn s a 0 127 = false := inn_no (by omega)
  have f1 : inn s a 194 223 = false := inn_no (by omega)
  have f2 : inn s a 224 224 = false := inn_no (by omega)
  have f3 : inn s a 237 237 = false := inn_no (by omega)
  have f4 : inn s a 224 239 = false := inn_no (by omega)
  have f5 : inn s a 240 240 = true := inn_yes ha (by omega) (by omega)
  have f6 : inn s a 244 244 = false := inn_no (by omega)
  have f7 : inn s a 240 244 = true := inn_yes ha (by omega) (by omega)
  clear hl hh
  go_enter Tryz.func203, Tryz.ntmps203
  go_wp2_with (go_at_call 213; first | (refine (within_any s _ _ _ _ a (by omega) hs).mono ?_; rintro e w' ⟨rfl, rfl⟩) | (refine (within_any s _ _ _ _ (a + 1) (by omega) hs).mono ?_; rintro e w' ⟨rfl, rfl⟩) | (refine (within_any s _ _ _ _ (a + 2) (by omega) hs).mono ?_; rintro e w' ⟨rfl, rfl⟩) | (refine (within_any s _ _ _ _ (a + 3) (by omega) hs).mono ?_; rintro e w' ⟨rfl, rfl⟩))
  go_ret
  exact ⟨rfl, rfl⟩
set_option maxHeartbeats 400000 in
theorem char_240_n3 (s : ByteArray) (a : Nat) (w : World) (hs : s.size ≤ 140737488355328) (ha : a < s.size) (hl : 240 ≤ bt s a) (hh : bt s a ≤ 240) (g1 : inn s (a + 1) 144 191 = true)  (g2 : inn s (a + 2) 128 191 = true)  (g3 : inn s (a + 3) 128 191 = false) :
    Calls Tryz.prog 203 #[.string s, .int .i64 a] w fun e w' => e = .returned (.int .i64 0) ∧ w = w' := by
  have f0 : inn s a 0 127 = false := inn_no (by omega)
  have f1 : inn s a 194 223 = false := inn_no (by omega)
  have f2 : inn s a 224 224 = false := inn_no (by omega)
  have f3 : inn s a 237 237 = false := inn_no (by omega)
  have f4 : inn s a 224 239 = false := inn_no (by omega)
  have f5 : inn s a 240 240 = true := inn_yes ha (by omega) (by omega)
  have f6 : inn s a 244 244 = false := inn_no (by omega)
  have f7 : inn s a 240 244 = true := inn_yes ha (by omega) (by omega)
  clear hl hh
  go_enter Tryz.func203, Tryz.ntmps203
  go_wp2_with (go_at_call 213; first | (refine (within_any s _ _ _ _ a (by omega) hs).mono ?_; rintro e w' ⟨rfl, rfl⟩) | (refine (within_any s _ _ _ _ (a + 1) (by omega) hs).mono ?_; rintro e w' ⟨rfl, rfl⟩) | (refine (within_any s _ _ _ _ (a + 2) (by omega) hs).mono ?_; rintro e w' ⟨rfl, rfl⟩) | (refine (within_any s _ _ _ _ (a + 3) (by omega) hs).mono ?_; rintro e w' ⟨rfl, rfl⟩))
  go_ret
  exact ⟨rfl, rfl⟩
set_option maxHeartbeats 400000 in
theorem char_241_y (s : ByteArray) (a : Nat) (w : World) (hs : s.size ≤ 140737488355328) (ha : a < s.size) (hl : 241 ≤ bt s a) (hh : bt s a ≤ 243) (g1 : inn s (a + 1) 128 191 = true)  (g2 : inn s (a + 2) 128 191 = true)  (g3 : inn s (a + 3) 128 191 = true) :
    Calls Tryz.prog 203 #[.string s, .int .i64 a] w fun e w' => e = .returned (.int .i64 4) ∧ w = w' := by
  have f0 : inn s a 0 127 = false := inn_no (by omega)
  have f1 : inn s a 194 223 = false := inn_no (by omega)
  have f2 : inn s a 224 224 = false := inn_no (by omega)
  have f3 : inn s a 237 237 = false := inn_no (by omega)
  have f4 : inn s a 224 239 = false := inn_no (by omega)
  have f5 : inn s a 240 240 = false := inn_no (by omega)
  have f6 : inn s a 244 244 = false := inn_no (by omega)
  have f7 : inn s a 240 244 = true := inn_yes ha (by omega) (by omega)
  clear hl hh
  go_enter Tryz.func203, Tryz.ntmps203
  go_wp2_with (go_at_call 213; first | (refine (within_any s _ _ _ _ a (by omega) hs).mono ?_; rintro e w' ⟨rfl, rfl⟩) | (refine (within_any s _ _ _ _ (a + 1) (by omega) hs).mono ?_; rintro e w' ⟨rfl, rfl⟩) | (refine (within_any s _ _ _ _ (a + 2) (by omega) hs).mono ?_; rintro e w' ⟨rfl, rfl⟩) | (refine (within_any s _ _ _ _ (a + 3) (by omega) hs).mono ?_; rintro e w' ⟨rfl, rfl⟩))
  go_ret
  exact ⟨rfl, rfl⟩
set_option maxHeartbeats 400000 in
theorem char_241_n1 (s : ByteArray) (a : Nat) (w : World) (hs : s.size ≤ 140737488355328) (ha : a < s.size) (hl : 241 ≤ bt s a) (hh : bt s a ≤ 243) (g1 : inn s (a + 1) 128 191 = false) :
    Calls Tryz.prog 203 #[.string s, .int .i64 a] w fun e w' => e = .returned (.int .i64 0) ∧ w = w' := by
  have f0 : inn s a 0 127 = false := inn_no (by omega)
  have f1 : inn s a 194 223 = false := inn_no (by omega)
  have f2 : inn s a 224 224 = false := inn_no (by omega)
  have f3 : inn s a 237 237 = false := inn_no (by omega)
  have f4 : inn s a 224 239 = false := inn_no (by omega)
  have f5 : inn s a 240 240 = false := inn_no (by omega)
  have f6 : inn s a 244 244 = false := inn_no (by omega)
  have f7 : inn s a 240 244 = true := inn_yes ha (by omega) (by omega)
  clear hl hh
  go_enter Tryz.func203, Tryz.ntmps203
  go_wp2_with (go_at_call 213; first | (refine (within_any s _ _ _ _ a (by omega) hs).mono ?_; rintro e w' ⟨rfl, rfl⟩) | (refine (within_any s _ _ _ _ (a + 1) (by omega) hs).mono ?_; rintro e w' ⟨rfl, rfl⟩) | (refine (within_any s _ _ _ _ (a + 2) (by omega) hs).mono ?_; rintro e w' ⟨rfl, rfl⟩) | (refine (within_any s _ _ _ _ (a + 3) (by omega) hs).mono ?_; rintro e w' ⟨rfl, rfl⟩))
  go_ret
  exact ⟨rfl, rfl⟩
set_option maxHeartbeats 400000 in
theorem char_241_n2 (s : ByteArray) (a : Nat) (w : World) (hs : s.size ≤ 140737488355328) (ha : a < s.size) (hl : 241 ≤ bt s a) (hh : bt s a ≤ 243) (g1 : inn s (a + 1) 128 191 = true)  (g2 : inn s (a + 2) 128 191 = false) :
    Calls Tryz.prog 203 #[.string s, .int .i64 a] w fun e w' => e = .returned (.int .i64 0) ∧ w = w' := by
  have f0 : inn s a 0 127 = false := inn_no (by omega)
  have f1 : inn s a 194 223 = false := inn_no (by omega)
  have f2 : inn s a 224 224 = false := inn_no (by omega)
  have f3 : inn s a 237 237 = false := inn_no (by omega)
  have f4 : inn s a 224 239 = false := inn_no (by omega)
  have f5 : inn s a 240 240 = false := inn_no (by omega)
  have f6 : inn s a 244 244 = false := inn_no (by omega)
  have f7 : inn s a 240 244 = true := inn_yes ha (by omega) (by omega)
  clear hl hh
  go_enter Tryz.func203, Tryz.ntmps203
  go_wp2_with (go_at_call 213; first | (refine (within_any s _ _ _ _ a (by omega) hs).mono ?_; rintro e w' ⟨rfl, rfl⟩) | (refine (within_any s _ _ _ _ (a + 1) (by omega) hs).mono ?_; rintro e w' ⟨rfl, rfl⟩) | (refine (within_any s _ _ _ _ (a + 2) (by omega) hs).mono ?_; rintro e w' ⟨rfl, rfl⟩) | (refine (within_any s _ _ _ _ (a + 3) (by omega) hs).mono ?_; rintro e w' ⟨rfl, rfl⟩))
  go_ret
  exact ⟨rfl, rfl⟩
set_option maxHeartbeats 400000 in
theorem char_241_n3 (s : ByteArray) (a : Nat) (w : World) (hs : s.size ≤ 140737488355328) (ha : a < s.size) (hl : 241 ≤ bt s a) (hh : bt s a ≤ 243) (g1 : inn s (a + 1) 128 191 = true)  (g2 : inn s (a + 2) 128 191 = true)  (g3 : inn s (a + 3) 128 191 = false) :
    Calls Tryz.prog 203 #[.string s, .int .i64 a] w fun e w' => e = .returned (.int .i64 0) ∧ w = w' := by
  have f0 : inn s a 0 127 = false := inn_no (by omega)
  have f1 : inn s a 194 223 = false := inn_no (by omega)
  have f2 : inn s a 224 224 = false := inn_no (by omega)
  have f3 : inn s a 237 237 = false := inn_no (by omega)
  have f4 : inn s a 224 239 = false := inn_no (by omega)
  have f5 : inn s a 240 240 = false := inn_no (by omega)
  have f6 : inn s a 244 244 = false := inn_no (by omega)
  have f7 : inn s a 240 244 = true := inn_yes ha (by omega) (by omega)
  clear hl hh
  go_enter Tryz.func203, Tryz.ntmps203
  go_wp2_with (go_at_call 213; first | (refine (within_any s _ _ _ _ a (by omega) hs).mono ?_; rintro e w' ⟨rfl, rfl⟩) | (refine (within_any s _ _ _ _ (a + 1) (by omega) hs).mono ?_; rintro e w' ⟨rfl, rfl⟩) | (refine (within_any s _ _ _ _ (a + 2) (by omega) hs).mono ?_; rintro e w' ⟨rfl, rfl⟩) | (refine (within_any s _ _ _ _ (a + 3) (by omega) hs).mono ?_; rintro e w' ⟨rfl, rfl⟩))
  go_ret
  exact ⟨rfl, rfl⟩
set_option maxHeartbeats 400000 in
theorem char_244_y (s : ByteArray) (a : Nat) (w : World) (hs : s.size ≤ 140737488355328) (ha : a < s.size) (hl : 244 ≤ bt s a) (hh : bt s a ≤ 244) (g1 : inn s (a + 1) 128 143 = true)  (g2 : inn s (a + 2) 128 191 = true)  (g3 : inn s (a + 3) 128 191 = true) :
    Calls Tryz.prog 203 #[.string s, .int .i64 a] w fun e w' => e = .returned (.int .i64 4) ∧ w = w' := by
  have f0 : inn s a 0 127 = false := inn_no (by omega)
  have f1 : inn s a 194 223 = false := inn_no (by omega)
  have f2 : inn s a 224 224 = false := inn_no (by omega)
  have f3 : inn s a 237 237 = false := inn_no (by omega)
  have f4 : inn s a 224 239 = false := inn_no (by omega)
  have f5 : inn s a 240 240 = false := inn_no (by omega)
  have f6 : inn s a 244 244 = true := inn_yes ha (by omega) (by omega)
  have f7 : inn s a 240 244 = true := inn_yes ha (by omega) (by omega)
  clear hl hh
  go_enter Tryz.func203, Tryz.ntmps203
  go_wp2_with (go_at_call 213; first | (refine (within_any s _ _ _ _ a (by omega) hs).mono ?_; rintro e w' ⟨rfl, rfl⟩) | (refine (within_any s _ _ _ _ (a + 1) (by omega) hs).mono ?_; rintro e w' ⟨rfl, rfl⟩) | (refine (within_any s _ _ _ _ (a + 2) (by omega) hs).mono ?_; rintro e w' ⟨rfl, rfl⟩) | (refine (within_any s _ _ _ _ (a + 3) (by omega) hs).mono ?_; rintro e w' ⟨rfl, rfl⟩))
  go_ret
  exact ⟨rfl, rfl⟩
set_option maxHeartbeats 400000 in
theorem char_244_n1 (s : ByteArray) (a : Nat) (w : World) (hs : s.size ≤ 140737488355328) (ha : a < s.size) (hl : 244 ≤ bt s a) (hh : bt s a ≤ 244) (g1 : inn s (a + 1) 128 143 = false) :
    Calls Tryz.prog 203 #[.string s, .int .i64 a] w fun e w' => e = .returned (.int .i64 0) ∧ w = w' := by
  have f0 : inn s a 0 127 = false := inn_no (by omega)
  have f1 : inn s a 194 223 = false := inn_no (by omega)
  have f2 : inn s a 224 224 = false := inn_no (by omega)
  have f3 : inn s a 237 237 = false := inn_no (by omega)
  have f4 : inn s a 224 239 = false := inn_no (by omega)
  have f5 : inn s a 240 240 = false := inn_no (by omega)
  have f6 : inn s a 244 244 = true := inn_yes ha (by omega) (by omega)
  have f7 : inn s a 240 244 = true := inn_yes ha (by omega) (by omega)
  clear hl hh
  go_enter Tryz.func203, Tryz.ntmps203
  go_wp2_with (go_at_call 213; first | (refine (within_any s _ _ _ _ a (by omega) hs).mono ?_; rintro e w' ⟨rfl, rfl⟩) | (refine (within_any s _ _ _ _ (a + 1) (by omega) hs).mono ?_; rintro e w' ⟨rfl, rfl⟩) | (refine (within_any s _ _ _ _ (a + 2) (by omega) hs).mono ?_; rintro e w' ⟨rfl, rfl⟩) | (refine (within_any s _ _ _ _ (a + 3) (by omega) hs).mono ?_; rintro e w' ⟨rfl, rfl⟩))
  go_ret
  exact ⟨rfl, rfl⟩
set_option maxHeartbeats 400000 in
theorem char_244_n2 (s : ByteArray) (a : Nat) (w : World) (hs : s.size ≤ 140737488355328) (ha : a < s.size) (hl : 244 ≤ bt s a) (hh : bt s a ≤ 244) (g1 : inn s (a + 1) 128 143 = true)  (g2 : inn s (a + 2) 128 191 = false) :
    Calls Tryz.prog 203 #[.string s, .int .i64 a] w fun e w' => e = .returned (.int .i64 0) ∧ w = w' := by
  have f0 : inn s a 0 127 = false := inn_no (by omega)
  have f1 : inn s a 194 223 = false := inn_no (by omega)
  have f2 : inn s a 224 224 = false := inn_no (by omega)
  have f3 : inn s a 237 237 = false := inn_no (by omega)
  have f4 : inn s a 224 239 = false := inn_no (by omega)
  have f5 : inn s a 240 240 = false := inn_no (by omega)
  have f6 : inn s a 244 244 = true := inn_yes ha (by omega) (by omega)
  have f7 : inn s a 240 244 = true := inn_yes ha (by omega) (by omega)
  clear hl hh
  go_enter Tryz.func203, Tryz.ntmps203
  go_wp2_with (go_at_call 213; first | (refine (within_any s _ _ _ _ a (by omega) hs).mono ?_; rintro e w' ⟨rfl, rfl⟩) | (refine (within_any s _ _ _ _ (a + 1) (by omega) hs).mono ?_; rintro e w' ⟨rfl, rfl⟩) | (refine (within_any s _ _ _ _ (a + 2) (by omega) hs).mono ?_; rintro e w' ⟨rfl, rfl⟩) | (refine (within_any s _ _ _ _ (a + 3) (by omega) hs).mono ?_; rintro e w' ⟨rfl, rfl⟩))
  go_ret
  exact ⟨rfl, rfl⟩
set_option maxHeartbeats 400000 in
theorem char_244_n3 (s : ByteArray) (a : Nat) (w : World) (hs : s.size ≤ 140737488355328) (ha : a < s.size) (hl : 244 ≤ bt s a) (hh : bt s a ≤ 244) (g1 : inn s (a + 1) 128 143 = true)  (g2 : inn s (a + 2) 128 191 = true)  (g3 : inn s (a + 3) 128 191 = false) :
    Calls Tryz.prog 203 #[.string s, .int .i64 a] w fun e w' => e = .returned (.int .i64 0) ∧ w = w' := by
  have f0 : inn s a 0 127 = false := inn_no (by omega)
  have f1 : inn s a 194 223 = false := inn_no (by omega)
  have f2 : inn s a 224 224 = false := inn_no (by omega)
  have f3 : inn s a 237 237 = false := inn_no (by omega)
  have f4 : inn s a 224 239 = false := inn_no (by omega)
  have f5 : inn s a 240 240 = false := inn_no (by omega)
  have f6 : inn s a 244 244 = true := inn_yes ha (by omega) (by omega)
  have f7 : inn s a 240 244 = true := inn_yes ha (by omega) (by omega)
  clear hl hh
  go_enter Tryz.func203, Tryz.ntmps203
  go_wp2_with (go_at_call 213; first | (refine (within_any s _ _ _ _ a (by omega) hs).mono ?_; rintro e w' ⟨rfl, rfl⟩) | (refine (within_any s _ _ _ _ (a + 1) (by omega) hs).mono ?_; rintro e w' ⟨rfl, rfl⟩) | (refine (within_any s _ _ _ _ (a + 2) (by omega) hs).mono ?_; rintro e w' ⟨rfl, rfl⟩) | (refine (within_any s _ _ _ _ (a + 3) (by omega) hs).mono ?_; rintro e w' ⟨rfl, rfl⟩))
  go_ret
  exact ⟨rfl, rfl⟩
set_option maxHeartbeats 400000 in
theorem char_245 (s : ByteArray) (a : Nat) (w : World) (hs : s.size ≤ 140737488355328) (ha : a < s.size) (hl : 245 ≤ bt s a) (hh : bt s a ≤ 255) :
    Calls Tryz.prog 203 #[.string s, .int .i64 a] w fun e w' => e = .returned (.int .i64 0) ∧ w = w' := by
  have f0 : inn s a 0 127 = false := inn_no (by omega)
  have f1 : inn s a 194 223 = false := inn_no (by omega)
  have f2 : inn s a 224 224 = false := inn_no (by omega)
  have f3 : inn s a 237 237 = false := inn_no (by omega)
  have f4 : inn s a 224 239 = false := inn_no (by omega)
  have f5 : inn s a 240 240 = false := inn_no (by omega)
  have f6 : inn s a 244 244 = false := inn_no (by omega)
  have f7 : inn s a 240 244 = false := inn_no (by omega)
  clear hl hh
  go_enter Tryz.func203, Tryz.ntmps203
  go_wp2_with (go_at_call 213; first | (refine (within_any s _ _ _ _ a (by omega) hs).mono ?_; rintro e w' ⟨rfl, rfl⟩) | (refine (within_any s _ _ _ _ (a + 1) (by omega) hs).mono ?_; rintro e w' ⟨rfl, rfl⟩) | (refine (within_any s _ _ _ _ (a + 2) (by omega) hs).mono ?_; rintro e w' ⟨rfl, rfl⟩) | (refine (within_any s _ _ _ _ (a + 3) (by omega) hs).mono ?_; rintro e w' ⟨rfl, rfl⟩))
  go_ret
  exact ⟨rfl, rfl⟩

theorem ret_eq {m n : Nat} {w : World} (h : m = n) : (fun (e : Ending) (w' : World) => e = .returned (.int .i64 (m : Int)) ∧ w = w') = (fun e w' => e = .returned (.int .i64 (n : Int)) ∧ w = w') := by rw [h]

theorem chr_0 (s : ByteArray) (a : Nat) (w : World) (hs : s.size ≤ 140737488355328) (ha : a < s.size) (hl : 0 ≤ bt s a) (hh : bt s a ≤ 127) :
    Calls Tryz.prog 203 #[.string s, .int .i64 a] w fun e w' => e = .returned (.int .i64 (Ch s a)) ∧ w = w' := by
  have f0 : inn s a 0 127 = true := inn_yes ha (by omega) (by omega)
  have f1 : inn s a 194 223 = false := inn_no (by omega)
  have f2 : inn s a 224 224 = false := inn_no (by omega)
  have f3 : inn s a 237 237 = false := inn_no (by omega)
  have f4 : inn s a 224 239 = false := inn_no (by omega)
  have f5 : inn s a 240 240 = false := inn_no (by omega)
  have f6 : inn s a 244 244 = false := inn_no (by omega)
  have f7 : inn s a 240 244 = false := inn_no (by omega)
  have hc : Ch s a = 1 := by unfold Ch; simp [*]
  rw [hc]; exact char_0 s a w hs ha hl hh
theorem chr_128 (s : ByteArray) (a : Nat) (w : World) (hs : s.size ≤ 140737488355328) (ha : a < s.size) (hl : 128 ≤ bt s a) (hh : bt s a ≤ 193) :
    Calls Tryz.prog 203 #[.string s, .int .i64 a] w fun e w' => e = .returned (.int .i64 (Ch s a)) ∧ w = w' := by
  have f0 : inn s a 0 127 = false := inn_no (by omega)
  have f1 : inn s a 194 223 = false := inn_no (by omega)
  have f2 : inn s a 224 224 = false := inn_no (by omega)
  have f3 : inn s a 237 237 = false := inn_no (by omega)
  have f4 : inn s a 224 239 = false := inn_no (by omega)
  have f5 : inn s a 240 240 = false := inn_no (by omega)
  have f6 : inn s a 244 244 = false := inn_no (by omega)
  have f7 : inn s a 240 244 = false := inn_no (by omega)
  have hc : Ch s a = 0 := by unfold Ch; simp [*]
  rw [hc]; exact char_128 s a w hs ha hl hh
theorem chr_194 (s : ByteArray) (a : Nat) (w : World) (hs : s.size ≤ 140737488355328) (ha : a < s.size) (hl : 194 ≤ bt s a) (hh : bt s a ≤ 223) :
    Calls Tryz.prog 203 #[.string s, .int .i64 a] w fun e w' => e = .returned (.int .i64 (Ch s a)) ∧ w = w' := by
  have f0 : inn s a 0 127 = false := inn_no (by omega)
  have f1 : inn s a 194 223 = true := inn_yes ha (by omega) (by omega)
  have f2 : inn s a 224 224 = false := inn_no (by omega)
  have f3 : inn s a 237 237 = false := inn_no (by omega)
  have f4 : inn s a 224 239 = false := inn_no (by omega)
  have f5 : inn s a 240 240 = false := inn_no (by omega)
  have f6 : inn s a 244 244 = false := inn_no (by omega)
  have f7 : inn s a 240 244 = false := inn_no (by omega)
  by_cases g1 : inn s (a + 1) 128 191 = true
  · have hc : Ch s a = 2 := by unfold Ch; simp [*]
    rw [hc]; exact char_194_y s a w hs ha hl hh g1
  · have g1 : inn s (a + 1) 128 191 = false := by simpa using g1
    have hc : Ch s a = 0 := by unfold Ch; simp [*]
    rw [hc]; exact char_194_n s a w hs ha hl hh g1
theorem chr_224 (s : ByteArray) (a : Nat) (w : World) (hs : s.size ≤ 140737488355328) (ha : a < s.size) (hl : 224 ≤ bt s a) (hh : bt s a ≤ 224) :
    Calls Tryz.prog 203 #[.string s, .int .i64 a] w fun e w' => e = .returned (.int .i64 (Ch s a)) ∧ w = w' := by
  have f0 : inn s a 0 127 = false := inn_no (by omega)
  have f1 : inn s a 194 223 = false := inn_no (by omega)
  have f2 : inn s a 224 224 = true := inn_yes ha (by omega) (by omega)
  have f3 : inn s a 237 237 = false := inn_no (by omega)
  have f4 : inn s a 224 239 = true := inn_yes ha (by omega) (by omega)
  have f5 : inn s a 240 240 = false := inn_no (by omega)
  have f6 : inn s a 244 244 = false := inn_no (by omega)
  have f7 : inn s a 240 244 = false := inn_no (by omega)
  by_cases g1 : inn s (a + 1) 160 191 = true
  · by_cases g2 : inn s (a + 2) 128 191 = true
    · have hc : Ch s a = 3 := by unfold Ch; simp [*]
      rw [hc]; exact char_224_y s a w hs ha hl hh g1 g2
    · have g2 : inn s (a + 2) 128 191 = false := by simpa using g2
      have hc : Ch s a = 0 := by unfold Ch; simp [*]
      rw [hc]; exact char_224_n2 s a w hs ha hl hh g1 g2
  · have g1 : inn s (a + 1) 160 191 = false := by simpa using g1
    have hc : Ch s a = 0 := by unfold Ch; simp [*]
    rw [hc]; exact char_224_n1 s a w hs ha hl hh g1
theorem chr_225 (s : ByteArray) (a : Nat) (w : World) (hs : s.size ≤ 140737488355328) (ha : a < s.size) (hl : 225 ≤ bt s a) (hh : bt s a ≤ 236) :
    Calls Tryz.prog 203 #[.string s, .int .i64 a] w fun e w' => e = .returned (.int .i64 (Ch s a)) ∧ w = w' := by
  have f0 : inn s a 0 127 = false := inn_no (by omega)
  have f1 : inn s a 194 223 = false := inn_no (by omega)
  have f2 : inn s a 224 224 = false := inn_no (by omega)
  have f3 : inn s a 237 237 = false := inn_no (by omega)
  have f4 : inn s a 224 239 = true := inn_yes ha (by omega) (by omega)
  have f5 : inn s a 240 240 = false := inn_no (by omega)
  have f6 : inn s a 244 244 = false := inn_no (by omega)
  have f7 : inn s a 240 244 = false := inn_no (by omega)
  by_cases g1 : inn s (a + 1) 128 191 = true
  · by_cases g2 : inn s (a + 2) 128 191 = true
    · have hc : Ch s a = 3 := by unfold Ch; simp [*]
      rw [hc]; exact char_225_y s a w hs ha hl hh g1 g2
    · have g2 : inn s (a + 2) 128 191 = false := by simpa using g2
      have hc : Ch s a = 0 := by unfold Ch; simp [*]
      rw [hc]; exact char_225_n2 s a w hs ha hl hh g1 g2
  · have g1 : inn s (a + 1) 128 191 = false := by simpa using g1
    have hc : Ch s a = 0 := by unfold Ch; simp [*]
    rw [hc]; exact char_225_n1 s a w hs ha hl hh g1
theorem chr_237 (s : ByteArray) (a : Nat) (w : World) (hs : s.size ≤ 140737488355328) (ha : a < s.size) (hl : 237 ≤ bt s a) (hh : bt s a ≤ 237) :
    Calls Tryz.prog 203 #[.string s, .int .i64 a] w fun e w' => e = .returned (.int .i64 (Ch s a)) ∧ w = w' := by
  have f0 : inn s a 0 127 = false := inn_no (by omega)
  have f1 : inn s a 194 223 = false := inn_no (by omega)
  have f2 : inn s a 224 224 = false := inn_no (by omega)
  have f3 : inn s a 237 237 = true := inn_yes ha (by omega) (by omega)
  have f4 : inn s a 224 239 = true := inn_yes ha (by omega) (by omega)
  have f5 : inn s a 240 240 = false := inn_no (by omega)
  have f6 : inn s a 244 244 = false := inn_no (by omega)
  have f7 : inn s a 240 244 = false := inn_no (by omega)
  by_cases g1 : inn s (a + 1) 128 159 = true
  · by_cases g2 : inn s (a + 2) 128 191 = true
    · have hc : Ch s a = 3 := by unfold Ch; simp [*]
      rw [hc]; exact char_237_y s a w hs ha hl hh g1 g2
    · have g2 : inn s (a + 2) 128 191 = false := by simpa using g2
      have hc : Ch s a = 0 := by unfold Ch; simp [*]
      rw [hc]; exact char_237_n2 s a w hs ha hl hh g1 g2
  · have g1 : inn s (a + 1) 128 159 = false := by simpa using g1
    have hc : Ch s a = 0 := by unfold Ch; simp [*]
    rw [hc]; exact char_237_n1 s a w hs ha hl hh g1
theorem chr_238 (s : ByteArray) (a : Nat) (w : World) (hs : s.size ≤ 140737488355328) (ha : a < s.size) (hl : 238 ≤ bt s a) (hh : bt s a ≤ 239) :
    Calls Tryz.prog 203 #[.string s, .int .i64 a] w fun e w' => e = .returned (.int .i64 (Ch s a)) ∧ w = w' := by
  have f0 : inn s a 0 127 = false := inn_no (by omega)
  have f1 : inn s a 194 223 = false := inn_no (by omega)
  have f2 : inn s a 224 224 = false := inn_no (by omega)
  have f3 : inn s a 237 237 = false := inn_no (by omega)
  have f4 : inn s a 224 239 = true := inn_yes ha (by omega) (by omega)
  have f5 : inn s a 240 240 = false := inn_no (by omega)
  have f6 : inn s a 244 244 = false := inn_no (by omega)
  have f7 : inn s a 240 244 = false := inn_no (by omega)
  by_cases g1 : inn s (a + 1) 128 191 = true
  · by_cases g2 : inn s (a + 2) 128 191 = true
    · have hc : Ch s a = 3 := by unfold Ch; simp [*]
      rw [hc]; exact char_238_y s a w hs ha hl hh g1 g2
    · have g2 : inn s (a + 2) 128 191 = false := by simpa using g2
      have hc : Ch s a = 0 := by unfold Ch; simp [*]
      rw [hc]; exact char_238_n2 s a w hs ha hl hh g1 g2
  · have g1 : inn s (a + 1) 128 191 = false := by simpa using g1
    have hc : Ch s a = 0 := by unfold Ch; simp [*]
    rw [hc]; exact char_238_n1 s a w hs ha hl hh g1
theorem chr_240 (s : ByteArray) (a : Nat) (w : World) (hs : s.size ≤ 140737488355328) (ha : a < s.size) (hl : 240 ≤ bt s a) (hh : bt s a ≤ 240) :
    Calls Tryz.prog 203 #[.string s, .int .i64 a] w fun e w' => e = .returned (.int .i64 (Ch s a)) ∧ w = w' := by
  have f0 : inn s a 0 127 = false := inn_no (by omega)
  have f1 : inn s a 194 223 = false := inn_no (by omega)
  have f2 : inn s a 224 224 = false := inn_no (by omega)
  have f3 : inn s a 237 237 = false := inn_no (by omega)
  have f4 : inn s a 224 239 = false := inn_no (by omega)
  have f5 : inn s a 240 240 = true := inn_yes ha (by omega) (by omega)
  have f6 : inn s a 244 244 = false := inn_no (by omega)
  have f7 : inn s a 240 244 = true := inn_yes ha (by omega) (by omega)
  by_cases g1 : inn s (a + 1) 144 191 = true
  · by_cases g2 : inn s (a + 2) 128 191 = true
    · by_cases g3 : inn s (a + 3) 128 191 = true
      · have hc : Ch s a = 4 := by unfold Ch; simp [*]
        rw [hc]; exact char_240_y s a w hs ha hl hh g1 g2 g3
      · have g3 : inn s (a + 3) 128 191 = false := by simpa using g3
        have hc : Ch s a = 0 := by unfold Ch; simp [*]
        rw [hc]; exact char_240_n3 s a w hs ha hl hh g1 g2 g3
    · have g2 : inn s (a + 2) 128 191 = false := by simpa using g2
      have hc : Ch s a = 0 := by unfold Ch; simp [*]
      rw [hc]; exact char_240_n2 s a w hs ha hl hh g1 g2
  · have g1 : inn s (a + 1) 144 191 = false := by simpa using g1
    have hc : Ch s a = 0 := by unfold Ch; simp [*]
    rw [hc]; exact char_240_n1 s a w hs ha hl hh g1
theorem chr_241 (s : ByteArray) (a : Nat) (w : World) (hs : s.size ≤ 140737488355328) (ha : a < s.size) (hl : 241 ≤ bt s a) (hh : bt s a ≤ 243) :
    Calls Tryz.prog 203 #[.string s, .int .i64 a] w fun e w' => e = .returned (.int .i64 (Ch s a)) ∧ w = w' := by
  have f0 : inn s a 0 127 = false := inn_no (by omega)
  have f1 : inn s a 194 223 = false := inn_no (by omega)
  have f2 : inn s a 224 224 = false := inn_no (by omega)
  have f3 : inn s a 237 237 = false := inn_no (by omega)
  have f4 : inn s a 224 239 = false := inn_no (by omega)
  have f5 : inn s a 240 240 = false := inn_no (by omega)
  have f6 : inn s a 244 244 = false := inn_no (by omega)
  have f7 : inn s a 240 244 = true := inn_yes ha (by omega) (by omega)
  by_cases g1 : inn s (a + 1) 128 191 = true
  · by_cases g2 : inn s (a + 2) 128 191 = true
    · by_cases g3 : inn s (a + 3) 128 191 = true
      · have hc : Ch s a = 4 := by unfold Ch; simp [*]
        rw [hc]; exact char_241_y s a w hs ha hl hh g1 g2 g3
      · have g3 : inn s (a + 3) 128 191 = false := by simpa using g3
        have hc : Ch s a = 0 := by unfold Ch; simp [*]
        rw [hc]; exact char_241_n3 s a w hs ha hl hh g1 g2 g3
    · have g2 : inn s (a + 2) 128 191 = false := by simpa using g2
      have hc : Ch s a = 0 := by unfold Ch; simp [*]
      rw [hc]; exact char_241_n2 s a w hs ha hl hh g1 g2
  · have g1 : inn s (a + 1) 128 191 = false := by simpa using g1
    have hc : Ch s a = 0 := by unfold Ch; simp [*]
    rw [hc]; exact char_241_n1 s a w hs ha hl hh g1
theorem chr_244 (s : ByteArray) (a : Nat) (w : World) (hs : s.size ≤ 140737488355328) (ha : a < s.size) (hl : 244 ≤ bt s a) (hh : bt s a ≤ 244) :
    Calls Tryz.prog 203 #[.string s, .int .i64 a] w fun e w' => e = .returned (.int .i64 (Ch s a)) ∧ w = w' := by
  have f0 : inn s a 0 127 = false := inn_no (by omega)
  have f1 : inn s a 194 223 = false := inn_no (by omega)
  have f2 : inn s a 224 224 = false := inn_no (by omega)
  have f3 : inn s a 237 237 = false := inn_no (by omega)
  have f4 : inn s a 224 239 = false := inn_no (by omega)
  have f5 : inn s a 240 240 = false := inn_no (by omega)
  have f6 : inn s a 244 244 = true := inn_yes ha (by omega) (by omega)
  have f7 : inn s a 240 244 = true := inn_yes ha (by omega) (by omega)
  by_cases g1 : inn s (a + 1) 128 143 = true
  · by_cases g2 : inn s (a + 2) 128 191 = true
    · by_cases g3 : inn s (a + 3) 128 191 = true
      · have hc : Ch s a = 4 := by unfold Ch; simp [*]
        rw [hc]; exact char_244_y s a w hs ha hl hh g1 g2 g3
      · have g3 : inn s (a + 3) 128 191 = false := by simpa using g3
        have hc : Ch s a = 0 := by unfold Ch; simp [*]
        rw [hc]; exact char_244_n3 s a w hs ha hl hh g1 g2 g3
    · have g2 : inn s (a + 2) 128 191 = false := by simpa using g2
      have hc : Ch s a = 0 := by unfold Ch; simp [*]
      rw [hc]; exact char_244_n2 s a w hs ha hl hh g1 g2
  · have g1 : inn s (a + 1) 128 143 = false := by simpa using g1
    have hc : Ch s a = 0 := by unfold Ch; simp [*]
    rw [hc]; exact char_244_n1 s a w hs ha hl hh g1
theorem chr_245 (s : ByteArray) (a : Nat) (w : World) (hs : s.size ≤ 140737488355328) (ha : a < s.size) (hl : 245 ≤ bt s a) (hh : bt s a ≤ 255) :
    Calls Tryz.prog 203 #[.string s, .int .i64 a] w fun e w' => e = .returned (.int .i64 (Ch s a)) ∧ w = w' := by
  have f0 : inn s a 0 127 = false := inn_no (by omega)
  have f1 : inn s a 194 223 = false := inn_no (by omega)
  have f2 : inn s a 224 224 = false := inn_no (by omega)
  have f3 : inn s a 237 237 = false := inn_no (by omega)
  have f4 : inn s a 224 239 = false := inn_no (by omega)
  have f5 : inn s a 240 240 = false := inn_no (by omega)
  have f6 : inn s a 244 244 = false := inn_no (by omega)
  have f7 : inn s a 240 244 = false := inn_no (by omega)
  have hc : Ch s a = 0 := by unfold Ch; simp [*]
  rw [hc]; exact char_245 s a w hs ha hl hh

/-- Character, at every place of every text. -/
theorem char_any (s : ByteArray) (x : Int) (a : Nat) (w : World) (hx : x = a) (hs : s.size ≤ 140737488355328) (ha : a < s.size) :
    Calls Tryz.prog 203 #[.string s, .int .i64 x] w fun e w' => e = .returned (.int .i64 (Ch s a)) ∧ w = w' := by
  subst hx
  have h0 := bt_nonneg s a
  have h1 := bt_le s a
  have H : (0 ≤ bt s a ∧ bt s a ≤ 127) ∨ (128 ≤ bt s a ∧ bt s a ≤ 193) ∨ (194 ≤ bt s a ∧ bt s a ≤ 223) ∨ (224 ≤ bt s a ∧ bt s a ≤ 224) ∨ (225 ≤ bt s a ∧ bt s a ≤ 236) ∨ (237 ≤ bt s a ∧ bt s a ≤ 237) ∨ (238 ≤ bt s a ∧ bt s a ≤ 239) ∨ (240 ≤ bt s a ∧ bt s a ≤ 240) ∨ (241 ≤ bt s a ∧ bt s a ≤ 243) ∨ (244 ≤ bt s a ∧ bt s a ≤ 244) ∨ (245 ≤ bt s a ∧ bt s a ≤ 255) := by omega
  rcases H with ⟨hl, hh⟩ | ⟨hl, hh⟩ | ⟨hl, hh⟩ | ⟨hl, hh⟩ | ⟨hl, hh⟩ | ⟨hl, hh⟩ | ⟨hl, hh⟩ | ⟨hl, hh⟩ | ⟨hl, hh⟩ | ⟨hl, hh⟩ | ⟨hl, hh⟩
  · exact chr_0 s a w hs ha hl hh
  · exact chr_128 s a w hs ha hl hh
  · exact chr_194 s a w hs ha hl hh
  · exact chr_224 s a w hs ha hl hh
  · exact chr_225 s a w hs ha hl hh
  · exact chr_237 s a w hs ha hl hh
  · exact chr_238 s a w hs ha hl hh
  · exact chr_240 s a w hs ha hl hh
  · exact chr_241 s a w hs ha hl hh
  · exact chr_244 s a w hs ha hl hh
  · exact chr_245 s a w hs ha hl hh
end Go.Proofs.YtahjmpfjidijaaaGreatDoor.Txt
end
section
namespace Go.Proofs.YtahjmpfjidijaaaGreatDoor.Txt
set_option linter.unusedVariables false
open Go.RowKit Go.PlainAid Go.Proofs.YtahjmpfjidijaaaGreatDoor.Utf

theorem ret_int {k : IntKind} {a b : Int} (h : a = b) : Ending.returned (.int k a) = .returned (.int k b) := by rw [h]
theorem ret_str {a b : ByteArray} (h : a = b) : Ending.returned (.string a) = .returned (.string b) := by rw [h]
theorem ret_bool {a b : Bool} (h : a = b) : Ending.returned (.bool a) = .returned (.bool b) := by rw [h]

set_option maxHeartbeats 400000 in
/-- The reference's Bad. -/
theorem bad_any (s : ByteArray) (w : World) (hs : s.size ≤ 140737488355328) :
    Calls Tryz.prog 179 #[.string s] w fun e w' => e = .returned (.int .i64 (bad s)) ∧ w = w' := by
  have hb := get_bt s
  go_enter Tryz.func179, Tryz.ntmps179
  go_wp2
  go_loop [3] (fun p => ∃ a b : Nat, a ≤ s.size ∧ s.size ≤ a + b ∧ Bd s b a = bad s ∧ p = .int .i64 a) (fun p => s.size - (intOf p).toNat)
  case atStart => exact ⟨0, s.size, by omega, by omega, rfl, rfl⟩
  case round =>
    obtain ⟨a, b, ha, hab, hB, rfl⟩ := hrel
    have HB := Lib.hid hB
    clear hB
    by_cases hlt : a < s.size
    · have hm := Ch_max s a
      have hc := Ch_le s a
      by_cases h0 : Ch s a = 0
      · have hv : bad s = a := by rw [← HB.out]; exact Bd_here hlt hab (Or.inl h0)
        have Hv := Lib.hid hv
        clear hv hab
        have H0 : ((Ch s a : Int) == 0) = true := by simp [h0]
        have HH := Lib.hid h0
        clear h0
        go_wp2_with (go_at_call 203; refine (char_any s _ a _ rfl hs hlt).mono ?_; rintro e w' ⟨rfl, rfl⟩)
        go_ret
        exact ⟨ret_int (by rw [Hv.out]), rfl⟩
      · have H0 : ((Ch s a : Int) == 0) = false := by simp; omega
        by_cases h1 : bt s a = 0
        · have hv : bad s = a := by rw [← HB.out]; exact Bd_here hlt hab (Or.inr h1)
          have Hv := Lib.hid hv
          have H1 : (bt s a == 0) = true := by simp [h1]
          clear hv hab h1
          go_wp2_with (go_at_call 203; refine (char_any s _ a _ rfl hs hlt).mono ?_; rintro e w' ⟨rfl, rfl⟩)
          go_ret
          exact ⟨ret_int (by rw [Hv.out]), rfl⟩
        · have H1 : (bt s a == 0) = false := by simp; omega
          go_wp2_with (go_at_call 203; refine (char_any s _ a _ rfl hs hlt).mono ?_; rintro e w' ⟨rfl, rfl⟩)
          go_round
          case rel =>
            cases b with
            | zero => omega
            | succ b => exact ⟨a + Ch s a, b, by omega, by omega, by rw [← Bd_next hlt h0 h1]; exact HB.out, by go_num⟩
          case measure => simp [intOf]; omega
    · have hv : bad s = s.size := by rw [← HB.out]; exact Bd_end s b a (by omega)
      have Hv := Lib.hid hv
      clear hv
      go_wp2
      go_ret
      exact ⟨ret_int (by rw [Hv.out]), rfl⟩

/-- The reference's Good. -/
theorem rgood_any (s : ByteArray) (w : World) (hs : s.size ≤ 140737488355328) :
    Calls Tryz.prog 136 #[.string s] w fun e w' => e = .returned (.bool (good s)) ∧ w = w' := by
  have hv : good s = ((bad s : Int) == (s.size : Int)) := by
    unfold good; rw [Bool.eq_iff_iff]; simp; omega
  rw [hv]
  clear hv
  go_enter Tryz.func136, Tryz.ntmps136
  go_wp2_with (go_at_call 179; refine (bad_any s _ hs).mono ?_; rintro e w' ⟨rfl, rfl⟩)
  go_ret
  exact ⟨rfl, rfl⟩

theorem three_of {l : List UInt8} {a : Nat} (h : a + 2 < l.length) : (l.drop a).take 3 = [l[a], l[a + 1], l[a + 2]] := by
  rw [List.drop_eq_getElem_cons (by omega), List.drop_eq_getElem_cons (by omega), List.drop_eq_getElem_cons (by omega)]
  rfl
theorem bt_list (s : ByteArray) (k : Nat) (h : k < s.size) : bt s k = ((s.data.toList[k]'(by simpa using h)).toNat : Int) := by
  rw [← get_bt s k h]
  rfl
theorem spelt_eq (s : ByteArray) (a : Nat) (h : a + 2 < s.size) : (((s.extract a s.size).extract 0 3).toList == [239, 191, 189]) = spelt s a := by
  have e : ((s.extract a s.size).extract 0 3).toList = (s.data.toList.drop a).take 3 := by
    rw [ByteArray.toList_eq]
    simp only [ByteArray.data_extract, Array.toList_extract, List.extract_eq_take_drop]
    rw [List.drop_zero, List.take_take]
    congr 1
    omega
  have hl : s.data.toList.length = s.size := by simp
  rw [e, three_of (by omega)]
  have b0 := bt_list s a (by omega)
  have b1 := bt_list s (a + 1) (by omega)
  have b2 := bt_list s (a + 2) (by omega)
  rw [Bool.eq_iff_iff]
  unfold spelt
  simp only [beq_iff_eq, List.cons.injEq, and_true, Bool.and_eq_true, inn_iff, UInt8.toNat_inj.symm]
  have t0 : (239 : UInt8).toNat = 239 := rfl
  have t1 : (191 : UInt8).toNat = 191 := rfl
  have t2 : (189 : UInt8).toNat = 189 := rfl
  rw [t0, t1, t2]
  constructor
  · rintro ⟨p0, p1, p2⟩; omega
  · rintro ⟨⟨⟨_, p0, p0'⟩, _, p1, p1'⟩, _, p2, p2'⟩
    exact ⟨by omega, by omega, by omega⟩

/-- 'Do the bytes of U+FFFD begin this text?' -/
theorem spells_any (s : ByteArray) (a : Nat) (w : World) (hs : s.size ≤ 140737488355328) (ha : a < s.size) :
    Calls Tryz.prog 209 #[.string (s.extract a s.size)] w fun e w' => e = .returned (.bool (spelt s a)) ∧ w = w' := by
  by_cases h3 : 3 ≤ s.size - a
  · have h3' : (3 : Int) ≤ ((s.size - a : Nat) : Int) := by omega
    go_enter Tryz.func209, Tryz.ntmps209
    go_wp2
    go_ret
    exact ⟨ret_bool (spelt_eq s a (by omega)), rfl⟩
  · have h3' : ¬ (3 : Int) ≤ ((s.size - a : Nat) : Int) := by omega
    have hv : spelt s a = false := by unfold spelt; rw [inn_no (a := a + 2) (by omega)]; simp
    have Hv := Lib.hid hv
    clear hv
    go_enter Tryz.func209, Tryz.ntmps209
    go_wp2
    go_ret
    exact ⟨ret_bool Hv.out.symm, rfl⟩

theorem below_iter (w : World) (s : ByteArray) (p : Nat) : Below w.heap.size w (w.iter s p) := (Below.refl _ _).alloc (Nat.le_refl _) _

theorem ret_two {a b : Int} {x y : Bool} (h : a = b) (k : x = y) : Ending.returned (.tuple #[.int .i64 a, .bool x]) = .returned (.tuple #[.int .i64 b, .bool y]) := by rw [h, k]

set_option maxHeartbeats 800000 in
/-- wire's firstBad. -/
theorem first_any (s : ByteArray) (w : World) (hs : s.size ≤ 140737488355328) (B : Int) (F : Bool) (hF : Hid ((bad s < s.size ∧ B = bad s ∧ F = true) ∨ (bad s = s.size ∧ B = 0 ∧ F = false))) :
    Calls Tryz.prog 194 #[.string s] w fun e w' => e = .returned (.tuple #[.int .i64 B, .bool F]) ∧ Below w.heap.size w w' := by
  go_enter Tryz.func194, Tryz.ntmps194
  go_wp2
  go_loopw [] (fun w' => ∃ a b : Nat, a ≤ s.size ∧ s.size ≤ a + b ∧ Bd s b a = bad s ∧ w' = w.iter s a) (fun w' => s.size - w'.iterPos w.heap.size)
  case atStart => exact ⟨0, s.size, by omega, by omega, rfl, rfl⟩
  case round =>
    obtain ⟨a, b, ha, hab, hB, rfl⟩ := hrel
    have HB := Lib.hid hB
    clear hB
    by_cases hlt : a < s.size
    · have hnx : ∀ ty, (Instr.next (.pointer (some ⟨w.heap.size, 0, none⟩)) true ty).run Tryz.prog (w.iter s a) = _ := fun ty => run_next_any w s a ty hlt
      have hm := Ch_max s a
      have hc := Ch_le s a
      obtain ⟨q1, q2, q3⟩ := step_facts s a hlt
      by_cases h0 : Ch s a = 0
      · have hv : bad s = a := by rw [← HB.out]; exact Bd_here hlt hab (Or.inl h0)
        have hr := (q3.1 h0)
        have D0 : (((Utf8.decode s a).1 : Int) == 0) = false := by rw [hr.1]; rfl
        have D1 : (((Utf8.decode s a).1 : Int) == 65533) = true := by rw [hr.1]; rfl
        have D2 : spelt s a = false := hr.2
        have hB : B = a ∧ F = true := by
            rcases hF.out with ⟨_, p, q⟩ | ⟨p, _, _⟩
            · exact ⟨by omega, q⟩
            · omega
        obtain ⟨hB, hF'⟩ := hB
        have HBB := Lib.hid hB
        have HFF := Lib.hid hF'
        clear hv hr q1 q2 q3 h0 hc hm hB hF' hab
        go_wp2_with (go_at_call 209; refine (spells_any s a _ hs hlt).mono ?_; rintro e w' ⟨rfl, rfl⟩)
        go_ret2
        exact ⟨ret_two HBB.out.symm HFF.out.symm, below_iter _ _ _⟩
      · by_cases h1 : bt s a = 0
        · have hv : bad s = a := by rw [← HB.out]; exact Bd_here hlt hab (Or.inr h1)
          have D0 : (((Utf8.decode s a).1 : Int) == 0) = true := by rw [q2.2 h1]; rfl
          have hB : B = a ∧ F = true := by
            rcases hF.out with ⟨_, p, q⟩ | ⟨p, _, _⟩
            · exact ⟨by omega, q⟩
            · omega
          obtain ⟨hB, hF'⟩ := hB
          have HBB := Lib.hid hB
          have HFF := Lib.hid hF'
          clear hv q1 q2 q3 h0 hc hm hB hF' hab h1
          go_wp2
          go_ret2
          exact ⟨ret_two HBB.out.symm HFF.out.symm, below_iter _ _ _⟩
        · have D0 : (((Utf8.decode s a).1 : Int) == 0) = false := by
            rw [beq_eq_false_iff_ne]; intro q; exact h1 (q2.1 (by omega))
          have hw : (Utf8.decode s a).2 = Ch s a := by omega
          have HW := Lib.hid hw
          have H0 := Lib.hid h0
          have H1 := Lib.hid h1
          by_cases h2 : (Utf8.decode s a).1 = 65533
          · have D1 : (((Utf8.decode s a).1 : Int) == 65533) = true := by rw [h2]; rfl
            have D2 : spelt s a = true := by
              by_cases q : spelt s a = true
              · exact q
              · exact absurd (q3.2 ⟨h2, by simpa using q⟩) h0
            clear q1 q2 q3 h0 h1 hw h2
            go_wp2_with (go_at_call 209; refine (spells_any s a _ hs hlt).mono ?_; rintro e w' ⟨rfl, rfl⟩)
            go_roundw
            case rel =>
              cases b with
              | zero => omega
              | succ b =>
                rw [HW.out]
                have := H0.out
                exact ⟨a + Ch s a, b, by omega, by omega, by rw [← Bd_next hlt H0.out H1.out]; exact HB.out, rfl⟩
            case measure =>
              have := HW.out; have := H0.out
              simp
              omega
          · have D1 : (((Utf8.decode s a).1 : Int) == 65533) = false := by rw [beq_eq_false_iff_ne]; omega
            clear q1 q2 q3 h0 h1 hw h2
            go_wp2
            go_roundw
            case rel =>
              cases b with
              | zero => omega
              | succ b =>
                rw [HW.out]
                have := H0.out
                exact ⟨a + Ch s a, b, by omega, by omega, by rw [← Bd_next hlt H0.out H1.out]; exact HB.out, rfl⟩
            case measure =>
              have := HW.out; have := H0.out
              simp
              omega
    · have hnx : ∀ ty, (Instr.next (.pointer (some ⟨w.heap.size, 0, none⟩)) true ty).run Tryz.prog (w.iter s a) = _ := fun ty => run_next_end w s a ty hlt
      have hv : bad s = s.size := by rw [← HB.out]; exact Bd_end s b a (by omega)
      have hB : B = 0 ∧ F = false := by
        rcases hF.out with ⟨p, _, _⟩ | ⟨_, p, q⟩
        · omega
        · exact ⟨p, q⟩
      obtain ⟨hB, hF'⟩ := hB
      have HBB := Lib.hid hB
      have HFF := Lib.hid hF'
      clear hv hB hF'
      go_wp2
      go_ret2
      exact ⟨ret_two HBB.out.symm HFF.out.symm, below_iter _ _ _⟩

/-- wire's Good. -/
theorem good_any (s : ByteArray) (w : World) (hs : s.size ≤ 140737488355328) :
    Calls Tryz.prog 164 #[.string s] w fun e w' => e = .returned (.bool (good s)) ∧ Below w.heap.size w w' := by
  have hl := bad_le s
  by_cases h : bad s < s.size
  · have hv : good s = false := by unfold good; exact decide_eq_false (by omega)
    have Hv := Lib.hid hv
    have hF : Hid ((bad s < s.size ∧ (bad s : Int) = bad s ∧ true = true) ∨ (bad s = s.size ∧ (bad s : Int) = 0 ∧ true = false)) := Or.inl ⟨h, rfl, rfl⟩
    clear hv h hl
    go_enter Tryz.func164, Tryz.ntmps164
    go_wp2_with (go_at_call 194; refine (first_any s _ hs (bad s) true hF).mono ?_; rintro e w' ⟨rfl, hb⟩)
    go_ret
    exact ⟨ret_bool Hv.out.symm, hb⟩
  · have hv : good s = true := by unfold good; exact decide_eq_true (by omega)
    have Hv := Lib.hid hv
    have hF : Hid ((bad s < s.size ∧ (0 : Int) = bad s ∧ false = true) ∨ (bad s = s.size ∧ (0 : Int) = 0 ∧ false = false)) := Or.inr ⟨by omega, rfl, rfl⟩
    clear hv h hl
    go_enter Tryz.func164, Tryz.ntmps164
    go_wp2_with (go_at_call 194; refine (first_any s _ hs 0 false hF).mono ?_; rintro e w' ⟨rfl, hb⟩)
    go_ret
    exact ⟨ret_bool Hv.out.symm, hb⟩

theorem step_ct {s : ByteArray} {most : Int} {n e p : Nat} (hp : p = e + max 1 (Ch s e)) (h : most < (p : Int)) : Ct s most n e = e := Ct_stop (by omega)

end Go.Proofs.YtahjmpfjidijaaaGreatDoor.Txt
end
