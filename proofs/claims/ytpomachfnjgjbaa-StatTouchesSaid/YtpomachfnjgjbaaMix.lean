/- A record over which another one's touched fields went: plain facts. No program's run. -/
import Derived.Test.YtpomachfnjgjbaaTch
namespace Go.Proofs.Ytpomachfnjgjbaa
set_option linter.unusedVariables false
open Go.RowKit
theorem tb_bit (f : Nat → Bool) : ∀ n j, (tb f n).testBit j = (decide (j < n) && f j)
  | 0, j => by simp [tb]
  | n + 1, j => by
    have ih := tb_bit f n j
    have hlt := tb_lt f n
    cases hf : f n with
    | false =>
      rw [tb_off hf, ih]
      by_cases h : j = n
      · subst h; simp [hf]
      · have e : decide (j < n + 1) = decide (j < n) := by congr 1; exact propext (by omega)
        rw [e]
    | true =>
      rw [tb_on hf]
      have e : tb f n + 2 ^ n = 2 ^ n * 1 ||| tb f n := by rw [← Nat.two_pow_add_eq_or_of_lt hlt]; omega
      rw [e, Nat.mul_one, Nat.testBit_or, ih, Nat.testBit_two_pow]
      by_cases h : j = n
      · subst h; simp [hf]
      · have e1 : decide (n = j) = false := decide_eq_false (fun e => h e.symm)
        have e : decide (j < n + 1) = decide (j < n) := by congr 1; exact propext (by omega)
        rw [e, e1, Bool.false_or]
theorem and_bit (f : Nat → Bool) (k : Nat) (hk : k < 13) : bits .and .u16 ((tb f 13 : Nat) : Int) ((2 ^ k : Nat) : Int) = ((if f k then 2 ^ k else 0 : Nat) : Int) := by
  have hlt : tb f 13 < 8192 := tb_lt f 13
  have h1 : (2 : Nat) ^ k < 65536 := Nat.pow_lt_pow_right (by decide) (by omega : k < 16)
  have e : tb f 13 &&& 2 ^ k = if f k then 2 ^ k else 0 := by
    apply Nat.eq_of_testBit_eq
    intro i
    rw [Nat.testBit_and, tb_bit, Nat.testBit_two_pow]
    by_cases h : k = i
    · subst h
      rw [decide_eq_true hk]
      cases f k <;> simp
    · have e1 : decide (k = i) = false := decide_eq_false h
      rw [e1, Bool.and_false]
      cases f k
      · simp
      · rw [if_pos rfl, Nat.testBit_two_pow, e1]
  have a1 : (BitVec.ofInt 16 ((tb f 13 : Nat) : Int)).toNat = tb f 13 := by
    rw [BitVec.ofInt_natCast, BitVec.toNat_ofNat]; exact Nat.mod_eq_of_lt (by omega)
  have a2 : (BitVec.ofInt 16 ((2 ^ k : Nat) : Int)).toNat = 2 ^ k := by
    rw [BitVec.ofInt_natCast, BitVec.toNat_ofNat]; exact Nat.mod_eq_of_lt (by omega)
  show IntKind.u16.wrap ((BitVec.ofInt 16 ((tb f 13 : Nat) : Int) &&& BitVec.ofInt 16 ((2 ^ k : Nat) : Int)).toNat : Int) = _
  rw [BitVec.toNat_and, a1, a2, e, IntKind.wrap_u16]
  split <;> omega
theorem tb_mod (f : Nat → Bool) (k : Nat) (hk : k < 13) : tb f 13 / 2 ^ k % 2 = if f k then 1 else 0 := by
  have h := tb_bit f 13 k
  rw [Nat.testBit_eq_decide_div_mod_eq, decide_eq_true hk, Bool.true_and] at h
  cases hf : f k with
  | true => rw [hf] at h; simpa using h
  | false => rw [hf] at h; have := of_decide_eq_false h; simp; omega
theorem tb_none {f : Nat → Bool} (h : ∀ k, k < 13 → f k = false) : tb f 13 = 0 := by
  simp [tb, h 0, h 1, h 2, h 3, h 4, h 5, h 6, h 7, h 8, h 9, h 10, h 11, h 12]

def mix (f : Nat → Bool) (s h : Rec) (n : Nat) : Rec :=
  ⟨if (decide (0 < n) && f 0) then s.ty else h.ty, if (decide (1 < n) && f 1) then s.dev else h.dev, if (decide (2 < n) && f 2) then s.kind else h.kind, if (decide (3 < n) && f 3) then s.vers else h.vers, if (decide (4 < n) && f 4) then s.path else h.path, if (decide (5 < n) && f 5) then s.mode else h.mode, if (decide (6 < n) && f 6) then s.atime else h.atime, if (decide (7 < n) && f 7) then s.mtime else h.mtime, if (decide (8 < n) && f 8) then s.len else h.len, if (decide (9 < n) && f 9) then s.name else h.name, if (decide (10 < n) && f 10) then s.uid else h.uid, if (decide (11 < n) && f 11) then s.gid else h.gid, if (decide (12 < n) && f 12) then s.muid else h.muid⟩
theorem mix_start (f : Nat → Bool) (s h : Rec) : mix f s h 0 = h := by simp [mix]
theorem mix_on0 {f : Nat → Bool} (s h : Rec) (hf : f 0 = true) : (mix f s h 0).cells.setIfInBounds 0 (.int .u16 s.ty) = (mix f s h 1).cells := by
  simp [mix, Rec.cells, hf]
theorem mix_off0 {f : Nat → Bool} (s h : Rec) (hf : f 0 = false) : mix f s h 0 = mix f s h 1 := by
  simp [mix, hf]
theorem mix_on1 {f : Nat → Bool} (s h : Rec) (hf : f 1 = true) : (mix f s h 1).cells.setIfInBounds 1 (.int .u32 s.dev) = (mix f s h 2).cells := by
  simp [mix, Rec.cells, hf]
theorem mix_off1 {f : Nat → Bool} (s h : Rec) (hf : f 1 = false) : mix f s h 1 = mix f s h 2 := by
  simp [mix, hf]
theorem mix_on2 {f : Nat → Bool} (s h : Rec) (hf : f 2 = true) : (mix f s h 2).cells.setIfInBounds 2 (.int .u8 s.kind) = (mix f s h 3).cells := by
  simp [mix, Rec.cells, hf]
theorem mix_off2 {f : Nat → Bool} (s h : Rec) (hf : f 2 = false) : mix f s h 2 = mix f s h 3 := by
  simp [mix, hf]
theorem mix_on3 {f : Nat → Bool} (s h : Rec) (hf : f 3 = true) : (mix f s h 3).cells.setIfInBounds 3 (.int .u32 s.vers) = (mix f s h 4).cells := by
  simp [mix, Rec.cells, hf]
theorem mix_off3 {f : Nat → Bool} (s h : Rec) (hf : f 3 = false) : mix f s h 3 = mix f s h 4 := by
  simp [mix, hf]
theorem mix_on4 {f : Nat → Bool} (s h : Rec) (hf : f 4 = true) : (mix f s h 4).cells.setIfInBounds 4 (.int .u64 s.path) = (mix f s h 5).cells := by
  simp [mix, Rec.cells, hf]
theorem mix_off4 {f : Nat → Bool} (s h : Rec) (hf : f 4 = false) : mix f s h 4 = mix f s h 5 := by
  simp [mix, hf]
theorem mix_on5 {f : Nat → Bool} (s h : Rec) (hf : f 5 = true) : (mix f s h 5).cells.setIfInBounds 5 (.int .u32 s.mode) = (mix f s h 6).cells := by
  simp [mix, Rec.cells, hf]
theorem mix_off5 {f : Nat → Bool} (s h : Rec) (hf : f 5 = false) : mix f s h 5 = mix f s h 6 := by
  simp [mix, hf]
theorem mix_on6 {f : Nat → Bool} (s h : Rec) (hf : f 6 = true) : (mix f s h 6).cells.setIfInBounds 6 (.int .u32 s.atime) = (mix f s h 7).cells := by
  simp [mix, Rec.cells, hf]
theorem mix_off6 {f : Nat → Bool} (s h : Rec) (hf : f 6 = false) : mix f s h 6 = mix f s h 7 := by
  simp [mix, hf]
theorem mix_on7 {f : Nat → Bool} (s h : Rec) (hf : f 7 = true) : (mix f s h 7).cells.setIfInBounds 7 (.int .u32 s.mtime) = (mix f s h 8).cells := by
  simp [mix, Rec.cells, hf]
theorem mix_off7 {f : Nat → Bool} (s h : Rec) (hf : f 7 = false) : mix f s h 7 = mix f s h 8 := by
  simp [mix, hf]
theorem mix_on8 {f : Nat → Bool} (s h : Rec) (hf : f 8 = true) : (mix f s h 8).cells.setIfInBounds 8 (.int .u64 s.len) = (mix f s h 9).cells := by
  simp [mix, Rec.cells, hf]
theorem mix_off8 {f : Nat → Bool} (s h : Rec) (hf : f 8 = false) : mix f s h 8 = mix f s h 9 := by
  simp [mix, hf]
theorem mix_on9 {f : Nat → Bool} (s h : Rec) (hf : f 9 = true) : (mix f s h 9).cells.setIfInBounds 9 (.string s.name) = (mix f s h 10).cells := by
  simp [mix, Rec.cells, hf]
theorem mix_off9 {f : Nat → Bool} (s h : Rec) (hf : f 9 = false) : mix f s h 9 = mix f s h 10 := by
  simp [mix, hf]
theorem mix_on10 {f : Nat → Bool} (s h : Rec) (hf : f 10 = true) : (mix f s h 10).cells.setIfInBounds 10 (.string s.uid) = (mix f s h 11).cells := by
  simp [mix, Rec.cells, hf]
theorem mix_off10 {f : Nat → Bool} (s h : Rec) (hf : f 10 = false) : mix f s h 10 = mix f s h 11 := by
  simp [mix, hf]
theorem mix_on11 {f : Nat → Bool} (s h : Rec) (hf : f 11 = true) : (mix f s h 11).cells.setIfInBounds 11 (.string s.gid) = (mix f s h 12).cells := by
  simp [mix, Rec.cells, hf]
theorem mix_off11 {f : Nat → Bool} (s h : Rec) (hf : f 11 = false) : mix f s h 11 = mix f s h 12 := by
  simp [mix, hf]
theorem mix_on12 {f : Nat → Bool} (s h : Rec) (hf : f 12 = true) : (mix f s h 12).cells.setIfInBounds 12 (.string s.muid) = (mix f s h 13).cells := by
  simp [mix, Rec.cells, hf]
theorem mix_off12 {f : Nat → Bool} (s h : Rec) (hf : f 12 = false) : mix f s h 12 = mix f s h 13 := by
  simp [mix, hf]
end Go.Proofs.Ytpomachfnjgjbaa
