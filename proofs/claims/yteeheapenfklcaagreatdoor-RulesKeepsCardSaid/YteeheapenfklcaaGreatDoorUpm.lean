/- users: what Parse comes to, step by step. No program's run. -/
import Derived.Test.YteeheapenfklcaaGreatDoorUtx
namespace Go.Proofs.YteeheapenfklcaaGreatDoor
set_option linter.unusedVariables false
namespace Us
open Go.Proofs.YteeheapenfklcaaGreatDoor.Utf Go.Proofs.YteeheapenfklcaaGreatDoor.Txt

theorem isName_size {s : ByteArray} (h : isName s = true) : s.size ≤ 32 := by
  unfold isName at h
  simp only [Bool.and_eq_true, decide_eq_true_eq] at h
  exact h.1.1.2
theorem accOf_fit {line : ByteArray} {a : Acc} (h : accOf line = some a) (hs : line.size ≤ 65536) : Fit a := by
  unfold accOf at h
  match hc : cutB 58 line with
  | [n, l, m, k] =>
    rw [hc] at h
    simp only at h
    unfold accIf at h
    split at h
    · rename_i hf
      cases h
      unfold form at hf
      simp only [Bool.and_eq_true] at hf
      obtain ⟨⟨⟨h1, h2⟩, h3⟩, h4⟩ := hf
      refine ⟨isName_size h1, ?_, ?_, fun x hx => isName_size (List.all_eq_true.1 h3 x hx), ?_⟩
      · unfold leadOk at h2
        rw [Bool.or_eq_true, decide_eq_true_eq] at h2
        rcases h2 with h2 | h2
        · show l.size ≤ 32; omega
        · exact isName_size h2
      · unfold isKey at h4
        simp only [Bool.and_eq_true, decide_eq_true_eq] at h4
        exact h4.2
      · show (membersOf m).length ≤ 65537
        have hm := cutB_sizes 58 line m (by rw [hc]; simp)
        unfold membersOf
        split
        · simp
        · have := cutB_le 44 m; omega
    · cases h
  | [] => rw [hc] at h; cases h
  | [_] => rw [hc] at h; cases h
  | [_, _] => rw [hc] at h; cases h
  | [_, _, _] => rw [hc] at h; cases h
  | _ :: _ :: _ :: _ :: _ :: _ => rw [hc] at h; cases h

section
variable {ls : List ByteArray} {i : Nat} {T : List Acc} {l : ByteArray}
theorem drop_at (hi : i < ls.length) : ls.drop i = ls[i] :: ls.drop (i + 1) := List.drop_eq_getElem_cons hi
theorem pass1_quiet (hi : i < ls.length) (h : says ls[i] = false) : pass1 (ls.drop i) i T = pass1 (ls.drop (i + 1)) (i + 1) T := by
  rw [drop_at hi, pass1, if_neg (by rw [h]; decide)]
theorem pass1_none (hi : i < ls.length) (h : says ls[i] = true) (h2 : accOf ls[i] = none) : pass1 (ls.drop i) i T = .inl (60, i + 1) := by
  rw [drop_at hi, pass1, if_pos h, h2]
theorem pass1_twice (hi : i < ls.length) (h : says ls[i] = true) {a : Acc} (h2 : accOf ls[i] = some a) (h3 : addOk T a = false) : pass1 (ls.drop i) i T = .inl (61, i + 1) := by
  rw [drop_at hi, pass1, if_pos h, h2]
  simp [h3]
theorem pass1_more (hi : i < ls.length) (h : says ls[i] = true) {a : Acc} (h2 : accOf ls[i] = some a) (h3 : addOk T a = true) : pass1 (ls.drop i) i T = pass1 (ls.drop (i + 1)) (i + 1) (T ++ [a]) := by
  rw [drop_at hi, pass1, if_pos h, h2]
  simp [h3]
theorem pass2_quiet (hi : i < ls.length) (h : says ls[i] = false) : pass2 T (ls.drop i) i = pass2 T (ls.drop (i + 1)) (i + 1) := by
  rw [drop_at hi, pass2, if_neg (by rw [h]; decide)]
theorem pass2_none (hi : i < ls.length) (h : says ls[i] = true) (h2 : accOf ls[i] = none) : pass2 T (ls.drop i) i = .inl (60, i + 1) := by
  rw [drop_at hi, pass2, if_pos h, h2]
theorem pass2_lost (hi : i < ls.length) (h : says ls[i] = true) {a : Acc} (h2 : accOf ls[i] = some a) (h3 : knows T a = false) : pass2 T (ls.drop i) i = .inl (62, i + 1) := by
  rw [drop_at hi, pass2, if_pos h, h2]
  simp [h3]
theorem pass2_more (hi : i < ls.length) (h : says ls[i] = true) {a : Acc} (h2 : accOf ls[i] = some a) (h3 : knows T a = true) : pass2 T (ls.drop i) i = pass2 T (ls.drop (i + 1)) (i + 1) := by
  rw [drop_at hi, pass2, if_pos h, h2]
  simp [h3]
end
section
variable {s : ByteArray} {e i : Nat} {T : List Acc}
theorem parse_long (h : 65536 < s.size) : parse s = (none, 1, 0) := by unfold parse; rw [if_pos h]
theorem parse_one (h : ¬ 65536 < s.size) (h1 : pass1 (cutB 10 s) 0 [] = .inl (e, i)) : parse s = (none, e, i) := by unfold parse; rw [if_neg h, h1]
theorem parse_two (h : ¬ 65536 < s.size) (h1 : pass1 (cutB 10 s) 0 [] = .inr T) (h2 : pass2 T (cutB 10 s) 0 = .inl (e, i)) : parse s = (none, e, i) := by unfold parse; rw [if_neg h, h1]; simp only [h2]
theorem parse_much (h : ¬ 65536 < s.size) (h1 : pass1 (cutB 10 s) 0 [] = .inr T) (h2 : pass2 T (cutB 10 s) 0 = .inr ()) (h3 : 65536 < (textL T).length) : parse s = (none, 1, 0) := by unfold parse; rw [if_neg h, h1]; simp only [h2, if_pos h3]
theorem parse_ok (h : ¬ 65536 < s.size) (h1 : pass1 (cutB 10 s) 0 [] = .inr T) (h2 : pass2 T (cutB 10 s) 0 = .inr ()) (h3 : ¬ 65536 < (textL T).length) : parse s = (some T, 0, 0) := by unfold parse; rw [if_neg h, h1]; simp only [h2, if_neg h3]
end
end Us
end Go.Proofs.YteeheapenfklcaaGreatDoor
